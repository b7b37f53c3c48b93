import Derived.Test.YtibhfcnjmilepaaDoorNumZ
import Derived.StillTailTactics
namespace Go.Proofs.YtibhfcnjmilepaaDoor
open Go.RowKit

theorem Rd.at {g : Nat} {w : World} {pa : Option Addr} {n c : Nat} {l : List Nat} (h : Rd g w (.slice pa n c) l) {j : Nat} (hj : j < l.length) : ∃ b off, pa = some ⟨b, off, none⟩ ∧ b ≠ g ∧ b < w.heap.size ∧ w.cell? ⟨b, off + j, none⟩ = some (u32V (l.getD j 0)) := by
  obtain ⟨a, c', e, h⟩ := h
  cases e
  exact h j hj
def ProdRel (g na nb y : Nat) (a : List Nat) (W : World) (i : Value) (wr : World) : Prop :=
  ∃ (L : List Nat) (k : Nat), k ≤ na ∧ i = .int .i64 k ∧ L.length = k + nb ∧ Hid (okB L) ∧ Hid (valB L = valB (a.take k) * y) ∧ Hid (Bk wr g (L ++ List.replicate (na - k) 0)) ∧ Hid (Keep g W wr)
theorem valB_take1 (l : List Nat) (k : Nat) (h : k < l.length) : valB (l.take (k + 1)) = valB (l.take k) + bigB ^ k * l.getD k 0 := by
  rw [List.take_succ_eq_append_getElem h, valB_snoc, List.length_take, Nat.min_eq_left (by omega), List.getD_eq_getElem?_getD, List.getElem?_eq_getElem h, Option.getD_some]
/-- one round of 'product' -/
theorem prod_step {a L l1 : List Nat} {k y : Nat} (hk : k < a.length) (hL : k ≤ L.length) (hv : valB L = valB (a.take k) * y) (h1 : valB l1 = valB (L.drop k) + a.getD k 0 * y) : valB (L.take k ++ l1) = valB (a.take (k + 1)) * y := by
  have h2 := valB_split L k hL
  rw [valB_app, List.length_take, Nat.min_eq_left hL, h1, valB_take1 a k hk, Nat.add_mul, ← hv, h2, Nat.mul_add, Nat.mul_assoc, Nat.add_assoc]

set_option maxRecDepth 100000 in
set_option maxHeartbeats 4000000 in
theorem pprod_any (x y : Nat) (hx : (digB x).length ≤ 10000) (hy : (digB y).length ≤ 10000) (va vb : Value) (w : World) (ha : U32s w va (digB x)) (hb : U32s w vb (digB y)) :
    Calls Tryd.prog 49 #[va, vb] w (DigPost (x * y) w) := by
  obtain ⟨pa, ca, rfl⟩ := ha.val
  obtain ⟨pb, cb, rfl⟩ := hb.val
  obtain ⟨na, hna⟩ : ∃ na, na = (digB x).length := ⟨_, rfl⟩
  obtain ⟨nb, hnb⟩ : ∃ nb, nb = (digB y).length := ⟨_, rfl⟩
  rw [← hna] at ha hx ⊢
  rw [← hnb] at hb hy ⊢
  have MK := mk_any (na + nb) (by omega) w
  rw [show ((na + nb : Nat) : Int) = (na : Int) + nb by omega] at MK
  obtain ⟨W, hW⟩ : ∃ W, W = w.alloc (.cells ((List.replicate (na + nb) 0).map u32V).toArray 40) := ⟨_, rfl⟩
  rw [← hW] at MK
  obtain ⟨N, hN⟩ : ∃ N, N = na + nb := ⟨_, rfl⟩
  rw [← hN] at MK
  have HNN := Lib.hid hN
  have hbB : W.heap.size = w.heap.size + 1 := by rw [hW]; simp
  have hBW : Below w.heap.size w W := by rw [hW]; exact (Below.refl _ _).alloc (Nat.le_refl _) _
  have hbk : Bk W w.heap.size (List.replicate (na + nb) 0) := by rw [hW]; exact Bk.made _
  have HA := Lib.hid ((Rd.of ha (Nat.le_refl _)).below hBW)
  have HB := Lib.hid ((Rd.of hb (Nat.le_refl _)).below hBW)
  have HBW := Lib.hid hBW
  have HBK := Lib.hid hbk
  have HNA := Lib.hid hna
  have HNB := Lib.hid hnb
  clear ha hb hna hnb hW hBW hbk hN
  go_enter Tryd.func49, Tryd.ntmps49
  go_wp2
  go_loopw [15] (fun i wr => ProdRel w.heap.size na nb y (digB x) W i wr) (fun i _ => na - (intOf i).toNat)
  case atStart => exact ⟨List.replicate nb 0, 0, by omega, rfl, by simp, Lib.hid (okB_zeros _), Lib.hid (by rw [valB_zeros]; simp [valB]), Lib.hid (by rw [List.replicate_append_replicate, Nat.sub_zero, Nat.add_comm nb na]; exact HBK.out), Lib.hid (Keep.refl _ _)⟩
  case round =>
    obtain ⟨L, k, hk, rfl, hL, HOK, HV, HB1, HKP⟩ := hrel
    have k0 : (0 : Int) ≤ k := Int.natCast_nonneg _
    by_cases hgo : k < na
    · have g1 : (k : Int) < na := by omega
      have hka : k < (digB x).length := by rw [← HNA.out]; exact hgo
      obtain ⟨b2, off2, rfl, hne, hb2, hcx⟩ := HA.out.at hka
      obtain ⟨d, hd⟩ : ∃ d, d = (digB x).getD k 0 := ⟨_, rfl⟩
      rw [← hd] at hcx
      have hdB : d < bigB := by rw [hd]; exact okB_getD (digB_ok _) k
      have hcxw : wr.cell? ⟨b2, off2 + k, none⟩ = some (.int .u32 d) := (World.cell?_of_block (HKP.out.block b2 hne)).trans hcx
      have hsplit : Bk wr w.heap.size (L.take k ++ L.drop k ++ 0 :: List.replicate (na - k - 1) 0) := by
        have := HB1.out
        rw [show na - k = (na - k - 1) + 1 by omega, List.replicate_succ] at this
        rw [List.take_append_drop]; exact this
      have AT := addTimes_any w.heap.size k (N - k) nb (N - k) d 0 (L.take k) (L.drop k) (List.replicate (na - k - 1) 0) (digB y) (by rw [List.length_take]; omega) HNB.out (by rw [List.length_drop]; omega) (by have := HNN.out; omega) (digB_ok _) (okB_drop HOK.out k) (by have := HNN.out; omega) hdB (.slice pb nb cb) wr.drew hsplit.drew ((HB.out.keep HKP.out).keep (Keep.refl _ _).drew)
      rw [valB_digB] at AT
      have HAT := Lib.hid AT
      have HHD := Lib.hid hd
      have hst : ∀ l1, valB l1 = valB (L.drop k) + d * y → valB (L.take k ++ l1) = valB ((digB x).take (k + 1)) * y := fun l1 h1 => prod_step hka (show k ≤ L.length by omega) HV.out (by rw [← hd]; exact h1)
      have HST := Lib.hid hst
      have g2 : (k : Int) ≤ N := by have := HNN.out; omega
      have g3 : ¬ N = k := by have := HNN.out; omega
      clear hsplit AT hd hcx hst
      go_wp2_with fail
      go_still_tail 8, (by kernel_rfl)
      change wpList _ _ _ _ _ wr.drew
      go_wp2_with fail
      refine HAT.out.mono ?_
      rintro e w5 ⟨l1, rfl, hl1, hok1, hv1, hbk1, hk1⟩
      have HV1 := Lib.hid (HST.out l1 hv1)
      have HBK1 := Lib.hid hbk1
      have HKP1 := Lib.hid (HKP.out.trans ((Keep.refl _ _).drew.trans hk1))
      have HOK1 := Lib.hid (okB_app (okB_take HOK.out k) hok1)
      clear hv1 hbk1 hk1 hok1 hcxw
      go_wp2
      go_roundw
      case rel => exact ⟨L.take k ++ l1, k + 1, by omega, by go_num, by rw [List.length_append, List.length_take, hl1]; omega, HOK1, HV1, Lib.hid (by rw [show na - (k + 1) = na - k - 1 by omega]; exact HBK1.out), HKP1⟩
      case measure => simp [intOf]; omega
    · have g1 : ¬ (k : Int) < na := by omega
      have hkn : k = na := by omega
      subst hkn
      have hbk := HB1.out
      rw [Nat.sub_self, List.replicate_zero, List.append_nil] at hbk
      have hv := HV.out
      rw [List.take_of_length_le (by rw [← HNA.out]; exact Nat.le_refl _), valB_digB] at hv
      have TR := trim_dig w.heap.size N N L (by rw [HNN.out, hL]) (Nat.le_refl _) (by have := HNN.out; omega) HOK.out wr hbk
      rw [hv] at TR
      have HTR := Lib.hid TR
      have HB2 := Lib.hid (HBW.out.trans (HKP.out.below (Nat.le_refl _)))
      clear hbk hv TR
      go_wp2_with fail
      refine HTR.out.mono ?_
      rintro e w3 ⟨⟨v, rfl, hu⟩, hb3, _⟩
      have HU := Lib.hid hu
      have HB3 := Lib.hid (HB2.out.trans (hb3.mono (HB2.out.size)))
      clear hu hb3
      go_wp2
      go_ret
      exact ⟨⟨v, rfl, HU.out⟩, HB3.out⟩
end Go.Proofs.YtibhfcnjmilepaaDoor

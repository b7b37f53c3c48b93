import Derived.Test.YtibhfcnjmilepaaDoorNumAH
import Derived.Lib.ConvBytes
import Derived.Lib.SmallJoins
namespace Go.Proofs.YtibhfcnjmilepaaDoor
open Go.RowKit

def decD (d : List UInt8) : Bool := decide (d ≠ [] ∧ d.all isD = true)
theorem decD_bad {d : List UInt8} {k : Nat} (hk : k < d.length) (h : isD d[k] = false) : decD d = false := by
  unfold decD
  rw [decide_eq_false]
  rintro ⟨_, h2⟩
  rw [List.all_eq_true] at h2
  have := h2 _ (List.getElem_mem hk)
  rw [h] at this; cases this
theorem decD_good {d : List UInt8} (h0 : d ≠ []) (h : ∀ k (hk : k < d.length), isD d[k] = true) : decD d = true := by
  unfold decD
  refine decide_eq_true ⟨h0, ?_⟩
  rw [List.all_eq_true]
  intro c hc
  obtain ⟨k, hk, rfl⟩ := List.getElem_of_mem hc
  exact h k hk

set_option maxRecDepth 100000 in
set_option maxHeartbeats 4000000 in
theorem isdec_any (D : ByteArray) (hs : D.size ≤ 10000) (w : World) :
    Calls Tryd.prog 34 #[.string D] w fun e w' => e = .returned (.bool (decD D.data.toList)) ∧ w = w' := by
  obtain ⟨R, hR⟩ : ∃ R, R = decD D.data.toList := ⟨_, rfl⟩
  have HR := Lib.hid hR
  rw [← hR]
  clear hR
  go_enter Tryd.func34, Tryd.ntmps34
  go_wp2
  go_loop [6] (fun i => ∃ k : Nat, k ≤ D.size ∧ i = .int .i64 k ∧ Hid (∀ j (h : j < D.size), j < k → isD D[j] = true)) (fun i => D.size - (intOf i).toNat)
  case atStart => exact ⟨0, by omega, rfl, Lib.hid (fun j h hj => by omega)⟩
  case round =>
    obtain ⟨k, hk, rfl, HK⟩ := hrel
    have k0 : (0 : Int) ≤ k := Int.natCast_nonneg _
    by_cases hgo : k < D.size
    · have h1 : (k : Int) < D.size := by omega
      cases hd : isD D[k] with
      | true =>
        have hcn := (isD_nat _).1 hd
        have g1 : ¬ (D[k].toNat : Int) < 48 := by omega
        have g2 : ¬ (57 : Int) < (D[k].toNat : Int) := by omega
        have HK2 : Hid (∀ j (h : j < D.size), j < k + 1 → isD D[j] = true) := Lib.hid fun j h hj => by
          by_cases e : j = k
          · subst e; exact hd
          · exact HK.out j h (by omega)
        clear hd hcn
        go_wp2
        go_round
        case rel => exact ⟨k + 1, by omega, by go_num, HK2⟩
        case measure => simp [intOf]; omega
      | false =>
        have HN : Hid (R = false) := by show _ = _; rw [HR.out]; exact decD_bad (k := k) (by rw [ba_len]; exact hgo) hd
        have hcn : (D[k].toNat : Int) < 48 ∨ (¬ (D[k].toNat : Int) < 48 ∧ (57 : Int) < (D[k].toNat : Int)) := by
          have : ¬ (48 ≤ D[k].toNat ∧ D[k].toNat ≤ 57) := fun h => by rw [(isD_nat _).2 h] at hd; cases hd
          omega
        clear hd
        rcases hcn with g1 | ⟨g1, g2⟩
        all_goals
          go_wp2
          go_ret
          exact ⟨ret_bool HN.out.symm, rfl⟩
    · have h1 : ¬ (k : Int) < D.size := by omega
      by_cases hD0 : D.size = 0
      · have hl : D.toList = [] := by rw [Lib.toList_data]; exact List.length_eq_zero_iff.1 (by rw [ba_len]; exact hD0)
        have hl2 : D.toList.isEmpty = true := by rw [hl]; rfl
        have HN : Hid (R = false) := by show _ = _; rw [HR.out, ← Lib.toList_data, hl]; rfl
        clear hgo hD0 hl
        go_wp2
        go_ret
        exact ⟨ret_bool (by rw [HN.out]), rfl⟩
      · have hne : D.data.toList ≠ [] := fun h => hD0 (by rw [← ba_len, h]; rfl)
        have hl2 : D.toList.isEmpty = false := by rw [Lib.toList_data, List.isEmpty_eq_false_iff]; exact hne
        have HN : Hid (R = true) := by
          show _ = _
          rw [HR.out]
          refine decD_good hne fun j hj => ?_
          exact HK.out j (by rw [← ba_len]; exact hj) (by rw [ba_len] at hj; omega)
        clear hgo hD0 hne
        go_wp2
        go_ret
        exact ⟨ret_bool (by rw [HN.out]), rfl⟩

theorem valB_grps (j : Nat) : ∀ n, valB (grps n j) = n % bigB ^ j := by
  induction j with
  | zero => intro n; simp [grps, valB, Nat.mod_one]
  | succ j ih =>
    intro n
    rw [grps_cons, valB, ih, Nat.pow_succ, Nat.mul_comm (bigB ^ j), Nat.mod_mul]
theorem grps_ok (n j : Nat) : okB (grps n j) := by
  intro x hx
  unfold grps at hx
  obtain ⟨i, _, rfl⟩ := List.mem_map.1 hx
  exact grp_lt n i
theorem grps_trim {D : List UInt8} (hD : allD D) {j : Nat} (hj : D.length ≤ 9 * j) : valB (grps (valL D) j) = valL D := by
  rw [valB_grps, ← pow_nine]
  refine Nat.mod_eq_of_lt (Nat.lt_of_lt_of_le (val_lt D hD) (Nat.pow_le_pow_right (by omega) hj))

/-- 'fromDecimal', a group -/
def FromRel (g N V : Nat) (w : World) (i : Value) (wr : World) : Prop :=
  ∃ j : Nat, j ≤ N ∧ i = .int .i64 j ∧ Hid (Bk wr g (grps V j ++ List.replicate (N - j) 0)) ∧ Hid (Below g w wr)
def FromIn (g N V j lo e : Nat) (D : List UInt8) (w : World) (i : Value) (wr : World) : Prop :=
  ∃ t : Nat, lo + t ≤ e ∧ i = .int .i64 t ∧ Hid (Bk wr g (grps V j ++ seg D lo (lo + t) :: List.replicate (N - j - 1) 0)) ∧ Hid (Keep g w wr)
theorem bytes_any (w : World) (s : ByteArray) : ∃ W2 c, (convert 9 64 (.string s)).run Tryd.prog w = .ok (.slice (some ⟨w.heap.size, 0, none⟩) s.size c) W2 ∧ Below w.heap.size w W2 ∧ w.heap.size < W2.heap.size ∧ ∀ k (_ : k < s.size), W2.cell? ⟨w.heap.size, k, none⟩ = some (.int .u8 (s.data.toList.getD k 0).toNat) :=
  ⟨_, _, Lib.run_convert_string_bytes w _ _ 5 s Tryd.underlying9 Tryd.underlying64 Tryd.underlying5, Joins.below_bytesWorld _ _ _ _ (Nat.le_refl _), by rw [Lib.bytesWorld_size]; omega, fun k hk => Lib.bytesWorld_cell _ _ _ _ hk⟩
theorem ext_at (D : ByteArray) (lo e k : Nat) (he : e ≤ D.size) (hk : lo + k < e) : (D.extract lo e).data.toList.getD k 0 = D[lo + k]'(by omega) := by
  rw [Lib.extract_data, List.getD_eq_getElem?_getD, List.getElem?_take_of_lt (by omega), List.getElem?_drop, List.getElem?_eq_getElem (by rw [ba_len]; omega)]
  rfl

set_option maxRecDepth 100000 in
set_option maxHeartbeats 4000000 in
theorem fromdec_any (D : ByteArray) (hs : D.size ≤ 9000) (hDD : allD D.data.toList) (w : World) :
    Calls Tryd.prog 36 #[.string D] w (DigPost (valL D.data.toList) w) := by
  obtain ⟨N, hN⟩ : ∃ N, N = (D.size + 8) / 9 := ⟨_, rfl⟩
  have hN1 : D.size ≤ 9 * N := by omega
  have hN2 : 9 * N < D.size + 9 := by omega
  have hNI : ((D.size : Int) + 9 - 1) / 9 = (N : Int) := by omega
  have MK := mk_any N (by omega) w
  obtain ⟨W, hW⟩ : ∃ W, W = w.alloc (.cells ((List.replicate N 0).map u32V).toArray 40) := ⟨_, rfl⟩
  rw [← hW] at MK
  have hbB : W.heap.size = w.heap.size + 1 := by rw [hW]; simp
  have hBW : Below w.heap.size w W := by rw [hW]; exact (Below.refl _ _).alloc (Nat.le_refl _) _
  have hbk : Bk W w.heap.size (List.replicate N 0) := by rw [hW]; exact Bk.made _
  obtain ⟨V, hV⟩ : ∃ V, V = valL D.data.toList := ⟨_, rfl⟩
  rw [← hV]
  have HV := Lib.hid hV
  have HN := Lib.hid hN
  have HDD := Lib.hid hDD
  have HBW := Lib.hid hBW
  have HBK := Lib.hid hbk
  clear hW hBW hbk hV hN hDD
  go_enter Tryd.func36, Tryd.ntmps36
  go_wp2
  go_loopw [16] (fun i wr => FromRel w.heap.size N V w i wr) (fun i _ => N - (intOf i).toNat)
  case atStart => exact ⟨0, by omega, rfl, HBK, HBW⟩
  case round =>
    obtain ⟨j, hj, rfl, HB1, HBL⟩ := hrel
    obtain ⟨wo, rfl⟩ : ∃ wo : World, wo = wr := ⟨_, rfl⟩
    have j0 : (0 : Int) ≤ j := Int.natCast_nonneg _
    by_cases hgo : j < N
    · have g1 : (j : Int) < N := by omega
      obtain ⟨e, he⟩ : ∃ e, e + 9 * j = D.size := ⟨D.size - 9 * j, by omega⟩
      have hei : (D.size : Int) - j * 9 = (e : Int) := by omega
      have e0 : (0 : Int) < e := by omega
      have eD : (e : Int) ≤ D.size := by omega
      have hsz := HBL.out.size
      obtain ⟨lo, hlo⟩ : ∃ lo, lo = e - 9 := ⟨_, rfl⟩
      have hmx : max (0 : Int) ((e : Int) - 9) = (lo : Int) := by omega
      have lo0 : (0 : Int) ≤ lo := Int.natCast_nonneg _
      have loe : (lo : Int) ≤ e := by omega
      have loN : lo ≤ e := by omega
      have lo9 : e ≤ lo + 9 := by omega
      obtain ⟨S, hS⟩ : ∃ S, S = D.extract lo e := ⟨_, rfl⟩
      have hSl : S.size = e - lo := by rw [hS]; simp [ByteArray.size_extract]; omega
      obtain ⟨W2, c, hconv, hb2, hlt2, hcell⟩ := bytes_any wo S
      have HB2 := Lib.hid (HBL.out.trans (hb2.mono hsz))
      have hsz2 : w.heap.size < wo.heap.size := HB1.out.lt
      have HBK2 := Lib.hid (HB1.out.below hb2 hsz2)
      have hc2 : ∀ t, lo + t < e → ∀ h : lo + t < D.size, W2.cell? ⟨wo.heap.size, t, none⟩ = some (.int .u8 (D[lo + t].toNat : Int)) := fun t ht h => by
        rw [hcell t (by omega), hS, ext_at D lo e t (by omega) ht]
      have HC2 := Lib.hid hc2
      have HS := Lib.hid hS
      have HLO := Lib.hid hlo
      have HE := Lib.hid he
      rw [hSl] at hconv
      have hne : wo.heap.size ≠ w.heap.size := by omega
      clear hcell hb2 hc2 hlo he hSl
      rw [hS] at hconv
      clear hS
      obtain ⟨sl, hsl⟩ : ∃ sl, sl = e - lo := ⟨_, rfl⟩
      rw [← hsl] at hconv
      have hsle : lo + sl = e := by omega
      have HSL := Lib.hid hsle
      clear hsl hsle
      go_wp2
      go_loopw [32] (fun i wr => FromIn w.heap.size N V j lo e D.data.toList W2 i wr) (fun i _ => sl - (intOf i).toNat)
      case atStart => exact ⟨0, by omega, rfl, Lib.hid (by
        have := HBK2.out
        rw [show N - j = N - j - 1 + 1 by omega, List.replicate_succ] at this
        rw [Nat.add_zero, seg_nil]; exact this), Lib.hid (Keep.refl _ _)⟩
      case round =>
        obtain ⟨t, ht, rfl, HBT, HKT⟩ := hrel
        have t0 : (0 : Int) ≤ t := Int.natCast_nonneg _
        have hslI : (lo : Int) + sl = e := by have := HSL.out; omega
        have HBT2 : Hid (Bk wr w.heap.size ([] ++ (grps V j ++ seg D.data.toList lo (lo + t) :: List.replicate (N - j - 1) 0) ++ [])) := by show Bk _ _ _; rw [List.nil_append, List.append_nil]; exact HBT.out
        by_cases hin : t < sl
        · have g2 : (t : Int) < sl := by omega
          have hlt : lo + t < D.size := by omega
          have hte : lo + t < e := by omega
          have hcb : wr.cell? ⟨wo.heap.size, t, none⟩ = some (.int .u8 (D[lo + t].toNat : Int)) := (World.cell?_of_block (HKT.out.block _ hne)).trans (HC2.out t hte hlt)
          have hsn := seg_snoc D.data.toList lo (lo + t) (by omega) (by rw [ba_len]; exact hlt)
          have hslt := seg_lt D.data.toList HDD.out lo (lo + t)
          have hs8 : seg D.data.toList lo (lo + t) < 100000000 := Nat.lt_of_lt_of_le hslt (Nat.le_trans (Nat.pow_le_pow_right (by omega) (show lo + t - lo ≤ 8 by omega)) (by omega))
          obtain ⟨v, hv⟩ : ∃ v, v = seg D.data.toList lo (lo + t) := ⟨_, rfl⟩
          rw [← hv] at hsn hs8 HBT2
          have hcd : isD D[lo + t] = true := HDD.out _ (by
            have : D.data.toList[lo + t]'(by rw [ba_len]; exact hlt) = D[lo + t] := rfl
            rw [← this]; exact List.getElem_mem _)
          have hcn := (isD_nat _).1 hcd
          obtain ⟨b, hb⟩ : ∃ b, b = D[lo + t].toNat := ⟨_, rfl⟩
          rw [← hb] at hcb hcn
          have hsn2 : seg D.data.toList lo (lo + (t + 1)) = 10 * v + (b - 48) := by rw [hb]; exact hsn
          have HSN := Lib.hid hsn2
          have hfz : wr.frozen? ⟨w.heap.size, j, none⟩ = false := HBT2.out.frozen _
          have hcz : wr.cell? ⟨w.heap.size, j, none⟩ = some (.int .u32 v) := HBT2.out.cell (by have := get_mid [] (grps V j) (List.replicate (N - j - 1) 0) [] v; rw [List.length_nil, Nat.zero_add, grps_len] at this; exact this)
          have v0 : (0 : Int) ≤ v := Int.natCast_nonneg _
          have v8 : (v : Int) < 100000000 := by omega
          have c1 : (48 : Int) ≤ b := by omega
          have c2 : (b : Int) ≤ 57 := by omega
          clear hsn hslt hs8 hv hcd hcn hsn2 hb HBT
          go_wp2
          go_roundw
          case rel => exact ⟨t + 1, by omega, by go_num, Lib.hid (by
            have := bk_put HBT2.out (o := j) (by simp [grps_len]) (10 * v + (b - 48)) ((v : Int) * 10 + ((b : Int) - 48)) (by omega)
            rw [List.nil_append, List.append_nil] at this
            rw [HSN.out]; exact this), Lib.hid (HKT.out.setCell _ _)⟩
          case measure => simp [intOf]; omega
        · have g2 : ¬ (t : Int) < sl := by omega
          have hte : lo + t = e := by have := HSL.out; omega
          have hgrp : seg D.data.toList lo (lo + t) = grp V j := by
            rw [hte, HLO.out, HV.out]
            exact seg_grp _ HDD.out j e (by rw [ba_len]; exact HE.out)
          have hbk : Bk wr w.heap.size (grps V (j + 1) ++ List.replicate (N - (j + 1)) 0) := by
            have := HBT.out
            rw [hgrp] at this
            rw [grps_succ, List.append_assoc, show N - (j + 1) = N - j - 1 by omega]
            exact this
          have HBN := Lib.hid hbk
          have HBW2 := Lib.hid (HB2.out.trans (HKT.out.below (Nat.le_refl _)))
          clear hte hgrp hbk HBT HBT2 hin
          go_wp2
          exact ⟨⟨j + 1, by omega, by go_num, HBN, HBW2⟩, by simp [intOf]; omega⟩
    · have g1 : ¬ (j : Int) < N := by omega
      have hjN : j = N := by omega
      have hbk := HB1.out
      rw [hjN, Nat.sub_self, List.replicate_zero, List.append_nil] at hbk
      have TR := trim_dig w.heap.size N N (grps V N) (grps_len _ _).symm (Nat.le_refl _) (by omega) (grps_ok _ _) wo hbk
      rw [HV.out, grps_trim HDD.out (by rw [ba_len]; exact hN1)] at TR
      rw [← HV.out] at TR
      have HTR := Lib.hid TR
      clear hbk TR hjN
      go_wp2_with fail
      refine HTR.out.mono ?_
      rintro e w3 ⟨⟨v, rfl, hu⟩, hb3, _⟩
      have HU := Lib.hid hu
      have HB3 := Lib.hid (HBL.out.trans (hb3.mono (HBL.out.size)))
      clear hu hb3
      go_wp2
      go_ret
      exact ⟨⟨v, rfl, HU.out⟩, HB3.out⟩
end Go.Proofs.YtibhfcnjmilepaaDoor

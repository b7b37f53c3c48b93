import Derived.Test.YtibhfcnjmilepaaDoorNumAD
import Derived.BigRegion
namespace Go.Proofs.YtibhfcnjmilepaaDoor
open Go.RowKit

/-- two numbers' digits -/
def TwoPost (q r : Nat) (w : World) (e : Ending) (w' : World) : Prop := (∃ v u, e = .returned (.tuple #[v, u]) ∧ U32s w' v (digB q) ∧ U32s w' u (digB r)) ∧ Below w.heap.size w w'
def ByRel (g n d : Nat) (l : List Nat) (W : World) (a i : Value) (wr : World) : Prop :=
  ∃ (L : List Nat) (k r : Nat), k ≤ n ∧ i = .int .i64 k ∧ a = .int .u64 r ∧ Hid (L.length = k) ∧ Hid (okB L) ∧ Hid (valB L = valB (l.drop (n - k)) / d) ∧ Hid (r = valB (l.drop (n - k)) % d) ∧ Hid (Bk wr g (List.replicate (n - k) 0 ++ L)) ∧ Hid (Keep g W wr)
theorem by_step {x Y d : Nat} (hd : 0 < d) : (x + bigB * Y) / d = (Y % d * bigB + x) / d + bigB * (Y / d) ∧ (x + bigB * Y) % d = (Y % d * bigB + x) % d := by
  have e : x + bigB * Y = (Y % d * bigB + x) + d * (bigB * (Y / d)) := by
    have h := Nat.mod_add_div Y d
    have : bigB * Y = bigB * (Y % d + d * (Y / d)) := by rw [h]
    rw [this, Nat.mul_add, Nat.mul_comm bigB (Y % d), ← Nat.mul_assoc, Nat.mul_comm bigB d, Nat.mul_assoc]
    omega
  rw [e, Nat.add_mul_div_left _ _ hd, Nat.add_mul_mod_self_left]
  exact ⟨rfl, rfl⟩
theorem by_lt {r x d : Nat} (hr : r < d) (hx : x < bigB) : (r * bigB + x) / d < bigB := by
  refine Nat.div_lt_of_lt_mul ?_
  have : (r + 1) * bigB ≤ d * bigB := Nat.mul_le_mul_right _ hr
  rw [Nat.succ_mul] at this
  omega

set_option maxRecDepth 100000 in
set_option maxHeartbeats 4000000 in
theorem pby_any (n d : Nat) (l : List Nat) (hn : n = l.length) (hn6 : n ≤ 900000) (ho : okB l) (hd0 : 0 < d) (hdB : d < bigB) (va : Value) (w : World) (ha : U32s w va l) :
    Calls Tryd.prog 55 #[va, .int .u32 d] w (TwoPost (valB l / d) (valB l % d) w) := by
  obtain ⟨pa, ca, rfl⟩ := ha.val
  rw [← hn] at ha ⊢
  have MK := mk_any n (by omega) w
  obtain ⟨W, hW⟩ : ∃ W, W = w.alloc (.cells ((List.replicate n 0).map u32V).toArray 40) := ⟨_, rfl⟩
  rw [← hW] at MK
  have hbB : W.heap.size = w.heap.size + 1 := by rw [hW]; simp
  have hBW : Below w.heap.size w W := by rw [hW]; exact (Below.refl _ _).alloc (Nat.le_refl _) _
  have hbk : Bk W w.heap.size (List.replicate n 0) := by rw [hW]; exact Bk.made _
  have HA := Lib.hid ((Rd.of ha (Nat.le_refl _)).below hBW)
  have HBW := Lib.hid hBW
  have HBK := Lib.hid hbk
  have HN := Lib.hid hn
  have HO := Lib.hid ho
  have HD0 := Lib.hid hd0
  have HDB := Lib.hid hdB
  have d0 : (0 : Int) < d := by omega
  have dI : (d : Int) < 1000000000 := by have := bigB_eq; omega
  obtain ⟨Q, hQ⟩ : ∃ Q, Q = valB l / d := ⟨_, rfl⟩
  obtain ⟨R, hR⟩ : ∃ R, R = valB l % d := ⟨_, rfl⟩
  rw [← hQ, ← hR]
  have HQ := Lib.hid hQ
  have HR := Lib.hid hR
  clear ha hn hW hBW hbk ho hd0 hdB hQ hR
  go_enter Tryd.func55, Tryd.ntmps55
  go_wp2
  go_loopw [7, 15] (fun a i wr => ByRel w.heap.size n d l W a i wr) (fun _ i _ => n - (intOf i).toNat)
  case atStart => exact ⟨[], 0, 0, by omega, rfl, rfl, Lib.hid rfl, Lib.hid okB_nil, Lib.hid (by rw [Nat.sub_zero, List.drop_of_length_le (by have := HN.out; omega)]; simp [valB]), Lib.hid (by rw [Nat.sub_zero, List.drop_of_length_le (by have := HN.out; omega)]; simp [valB]), Lib.hid (by rw [List.append_nil, Nat.sub_zero]; exact HBK.out), Lib.hid (Keep.refl _ _)⟩
  case round =>
    obtain ⟨L, k, r, hk, rfl, rfl, HL, HOL, HV, HM, HB1, HKP⟩ := hrel
    have k0 : (0 : Int) ≤ k := Int.natCast_nonneg _
    by_cases hgo : k < n
    · have g1 : (k : Int) < n := by omega
      obtain ⟨t, ht⟩ : ∃ t, t = n - 1 - k := ⟨_, rfl⟩
      have htn : t < n := by omega
      have hti : (n : Int) - 1 - k = t := by omega
      have t0 : (0 : Int) ≤ t := Int.natCast_nonneg _
      have t1 : (t : Int) < n := by omega
      have hnk : n - k = t + 1 := by omega
      obtain ⟨b2, o2, rfl, hne, hb2, hcx⟩ := HA.out.at (show t < l.length by rw [← HN.out]; exact htn)
      obtain ⟨x, hx⟩ : ∃ x, x = l.getD t 0 := ⟨_, rfl⟩
      rw [← hx] at hcx
      have hxB : x < bigB := by rw [hx]; exact okB_getD HO.out t
      have xI : (x : Int) < 1000000000 := by have := bigB_eq; omega
      have x0 : (0 : Int) ≤ x := Int.natCast_nonneg _
      have c1 : wr.cell? ⟨b2, o2 + t, none⟩ = some (.int .u32 x) := (World.cell?_of_block (HKP.out.block b2 hne)).trans hcx
      have hrd : r < d := by rw [HM.out]; exact Nat.mod_lt _ HD0.out
      have rI : (r : Int) < 1000000000 := by have := HDB.out; have := bigB_eq; omega
      have r0 : (0 : Int) ≤ r := Int.natCast_nonneg _
      have hst := by_step (x := x) (Y := valB (l.drop (t + 1))) HD0.out
      rw [hx, ← valB_dropD, ← hx, ← hnk, ← HM.out, ← HV.out] at hst
      have hlt := by_lt hrd hxB
      have HST := Lib.hid hst
      have HLT := Lib.hid hlt
      have HB2 : Hid (Bk wr w.heap.size ([] ++ (List.replicate t 0 ++ 0 :: L) ++ [])) := by
        have := HB1.out
        rw [hnk, List.replicate_succ', List.append_assoc] at this
        show Bk _ _ _
        simpa using this
      have hfz : wr.frozen? ⟨w.heap.size, t, none⟩ = false := HB2.out.frozen _
      have hcz : wr.cell? ⟨w.heap.size, t, none⟩ = some (.int .u32 ((0 : Nat) : Int)) := HB2.out.cell (by have := get_mid [] (List.replicate t 0) L [] 0; rw [List.length_nil, Nat.zero_add, List.length_replicate] at this; exact this)
      have HT := Lib.hid ht
      clear hcx hst hlt hx hxB hnk hrd ht HV HM HB1
      go_wp2
      obtain ⟨s, hs⟩ : ∃ s, s = r * bigB + x := ⟨_, rfl⟩
      have hsI : (r : Int) * 1000000000 + x = (s : Int) := by rw [hs, bigB_eq]; omega
      rw [hsI]
      obtain ⟨q, hq⟩ : ∃ q, q = s / d := ⟨_, rfl⟩
      obtain ⟨r2, hr2⟩ : ∃ r2, r2 = s % d := ⟨_, rfl⟩
      have hst := HST.out
      have hlt := HLT.out
      rw [← hs, ← hq, ← hr2] at hst
      rw [← hs, ← hq] at hlt
      have HST2 := Lib.hid hst
      have HLT2 := Lib.hid hlt
      have s0 : (0 : Int) ≤ s := Int.natCast_nonneg _
      have sI : (s : Int) < 1000000000000000000 := by omega
      have q0 : (0 : Int) ≤ q := Int.natCast_nonneg _
      have qI : (q : Int) < 1000000000 := by have := bigB_eq; omega
      have e1 : (s : Int) / d = (q : Int) := by rw [hq]; rfl
      have wq0 : IntKind.u64.wrap ((s : Int) / d) = (q : Int) := by rw [e1, IntWalk.u64_in _ (by omega)]
      have wq1 : IntKind.u64.wrap ((s : Int).tdiv d) = (q : Int) := by rw [IntWalk.u64_quo _ _ (by omega), e1]
      have wr0 : (s : Int).tmod d = (r2 : Int) := by rw [IntWalk.rem_in _ _ s0, hr2]; rfl
      have hd0 : ((d : Int) == 0) = false := by rw [beq_eq_false_iff_ne]; omega
      clear HST HLT hs hsI hq hr2 hst hlt
      go_region
      clear e1 wq0 wq1 wr0 hd0 s0 sI
      have HBW1 : Hid (Bk (wr.setCell ⟨w.heap.size, t, none⟩ (.int .u32 (q : Nat))).drew w.heap.size (List.replicate t 0 ++ q :: L)) := by
        have := bk_put HB2.out (o := t) (by simp) q _ rfl
        show Bk _ _ _
        rw [List.nil_append, List.append_nil] at this
        exact this.drew
      have HKW := Lib.hid ((HKP.out.setCell t (.int .u32 (q : Nat))).drew)
      go_wp2
      go_roundw
      case rel => exact ⟨q :: L, k + 1, r2, by omega, by go_num, rfl, Lib.hid (by rw [List.length_cons, HL.out]), Lib.hid (fun y hy => by
        rcases List.mem_cons.1 hy with rfl | hy
        · exact HLT2.out
        · exact HOL.out y hy), Lib.hid (by rw [show n - (k + 1) = t by have := HT.out; omega, valB, HST2.out.1]), Lib.hid (by rw [show n - (k + 1) = t by have := HT.out; omega, HST2.out.2]), Lib.hid (by rw [show n - (k + 1) = t by have := HT.out; omega]; exact HBW1.out), HKW⟩
      case measure => simp [intOf]; omega
    · have g1 : ¬ (k : Int) < n := by omega
      have hkn : k = n := by omega
      have hLn : L.length = n := by rw [HL.out, hkn]
      have hbk := HB1.out
      have hv := HV.out
      have hm := HM.out
      rw [hkn, Nat.sub_self, List.replicate_zero, List.nil_append] at hbk
      rw [hkn, Nat.sub_self, List.drop_zero, ← HQ.out] at hv
      rw [hkn, Nat.sub_self, List.drop_zero, ← HR.out] at hm
      have TR := trim_dig w.heap.size n n L hLn.symm (Nat.le_refl _) (by omega) HOL.out wr hbk
      rw [hv] at TR
      have HTR := Lib.hid TR
      have HB2 := Lib.hid (HBW.out.trans (HKP.out.below (Nat.le_refl _)))
      have hrB : R < bigB := by rw [HR.out]; exact Nat.lt_trans (Nat.mod_lt _ HD0.out) HDB.out
      have HRB := Lib.hid hrB
      have rI : (r : Int) < 1000000000 := by have := bigB_eq; omega
      have r0 : (0 : Int) ≤ r := Int.natCast_nonneg _
      have HM2 := Lib.hid hm
      clear hbk hv TR hm hrB HM HV HB1
      go_wp2_with fail
      refine HTR.out.mono ?_
      rintro e w3 ⟨⟨v, rfl, hu⟩, hb3, _⟩
      have HU := Lib.hid hu
      have HB3 := Lib.hid (HB2.out.trans (hb3.mono (HB2.out.size)))
      clear hu hb3
      go_wp2_with fail
      have hv1 : valB [r] = R := by rw [← HM2.out]; simp [valB]
      have TR2 := trim_dig w3.heap.size 1 1 [r] rfl (Nat.le_refl _) (by omega) (fun y hy => by rw [List.mem_singleton.1 hy, HM2.out]; exact HRB.out) (w3.alloc (.cells #[.int .u32 (r : Nat)] 40)) (Bk.made [r])
      rw [hv1] at TR2
      have HB4 := Lib.hid (HB3.out.alloc HB3.out.size (.cells #[.int .u32 (r : Nat)] 40))
      have HU4 := Lib.hid (HU.out.below ((Below.refl _ _).alloc (Nat.le_refl _) (.cells #[.int .u32 (r : Nat)] 40)))
      clear hv1
      refine TR2.mono ?_
      rintro e w5 ⟨⟨u, rfl, hu⟩, hb5, _⟩
      have HU5 := Lib.hid hu
      have HV5 := Lib.hid (HU4.out.below hb5)
      have HB5 := Lib.hid (HB4.out.trans (hb5.mono (HB4.out.size)))
      clear hu hb5
      go_wp2
      go_ret2
      exact ⟨⟨v, u, rfl, HV5.out, HU5.out⟩, HB5.out⟩
end Go.Proofs.YtibhfcnjmilepaaDoor

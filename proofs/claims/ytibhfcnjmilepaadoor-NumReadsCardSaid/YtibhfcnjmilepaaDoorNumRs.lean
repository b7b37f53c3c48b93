import Derived.Test.YtibhfcnjmilepaaDoorNumAT
import Derived.Test.YtibhfcnjmilepaaDoorNumDo
import Derived.Deep.RegionHeld3
namespace Go.Proofs.YtibhfcnjmilepaaDoor
open Go.RowKit

theorem below_drewN {B : Nat} {a w : World} (h : Below B a w) (n : Nat) : Below B a (w.drewN n) := ⟨h.os, h.tape, h.output, h.size, h.block⟩
theorem read_dl (s : ByteArray) : (digB ((readZ s.data.toList).getD 0).natAbs).length ≤ s.size / 9 + 1 := by
  have hz : (digB 0).length ≤ s.size / 9 + 1 := by rw [digB_zero]; exact Nat.zero_le _
  rw [pre_read, body_dec]
  by_cases hd : decD (Lib.trimPrefix s.data.toList [45]) = true
  · rw [if_pos hd, Option.getD_some, sg_abs, digB_len, ← pow_nine]
    have h1 := val_lt _ (decD_all hd)
    have h2 := trimPre_len s.data.toList
    rw [ba_len] at h2
    exact Nat.lt_of_lt_of_le h1 (Nat.pow_le_pow_right (by omega) (by omega))
  · rw [if_neg hd]; exact hz
theorem nreadG {s : ByteArray} {z k : Int} (hs : s.size ≤ 300) (hz : (readZ s.data.toList).getD 0 = z) (hk : errZ (readZ s.data.toList) 2 = k) (w : World) :
    Calls Tryd.prog 9 #[.string s] w (OkPost 34 k z w) := by
  subst hz
  subst hk
  exact (pRead_any s (by omega) w).mono fun _ _ h => err_post h (Nat.le_trans (read_dl s) (by omega))
theorem join_dl (m : Bool) (L : List Nat) : (digB ((joinZ m L).getD 0).natAbs).length ≤ L.length := by
  unfold joinZ
  split
  · rename_i h
    rw [Option.getD_some, sg_abs, h.2.2]
    exact Nat.le_refl _
  · show (digB 0).length ≤ _
    rw [digB_zero]; exact Nat.zero_le _
theorem njoinG {m : Bool} {v : Value} {L : List Nat} {z k : Int} {w : World} (hl : L.length ≤ 30) (hL : ∀ j, j < L.length → L.getD j 0 < 4294967296) (hz : (joinZ m L).getD 0 = z) (hk : errZ (joinZ m L) 1 = k) (hu : U32s w v L) :
    Calls Tryd.prog 13 #[.bool m, v] w (OkPost 30 k z w) := by
  subst hz
  subst hk
  exact (pJoin_any m v L (by omega) hL w hu).mono fun _ _ h => err_post h (Nat.le_trans (join_dl m L) hl)
theorem djoin {m b : Bool} {v : Value} {L : List Nat} {z k : Int} {D : ByteArray} {w : World} (hl : L.length ≤ 30) (hL : ∀ j, j < L.length → L.getD j 0 < 4294967296) (hz : (joinZ m L).getD 0 = z) (hk : errZ (joinZ m L) 1 = k) (hd : DocV b D z) (hu : U32s w v L) :
    Calls Tryd.prog 14 #[.bool m, v] w fun e w' => e = .returned (.tuple #[.agg #[.bool b, .string D], .int .i64 k]) ∧ Below w.heap.size w w' := by
  have h := rjoin_any m v L (by omega) hL w hu
  rw [← hd, ← hz, ← hk]
  cases hj : joinZ m L with
  | none => rw [hj] at h; exact h
  | some y => rw [hj] at h; exact h
/-- a number's digits, in a row of their own -/
def DgPost (mb : Bool) (M : List Nat) (N : Nat) (w : World) (e : Ending) (w' : World) : Prop := (∃ s c, e = .returned (.tuple #[.bool mb, .slice s N c]) ∧ U32s w' (.slice s N c) M) ∧ Below w.heap.size w w'
theorem npartsG {K : Nat} {w : World} {a : Value} {x : Int} {mb : Bool} {M : List Nat} {N : Nat} (hm : decide (x < 0) = mb) (hM : digB x.natAbs = M) (hN : M.length = N) (ha : NumIs K w a x) (hK : K ≤ 10000) : Calls Tryd.prog 15 #[a] w (DgPost mb M N w) :=
  (pParts_any x (Nat.le_trans ha.2 hK) a w ha.1).mono fun _ _ ⟨⟨v, he, hu⟩, hb⟩ => by
    subst hm
    subst hM
    subst hN
    obtain ⟨s, c, rfl⟩ := hu.val
    exact ⟨⟨_, _, he, hu⟩, hb⟩
theorem dparts {m : Bool} {A : ByteArray} {w : World} {x : Int} {mb : Bool} {M : List Nat} {N K : Nat} (hd : DocV m A x) (hm : decide (x < 0) = mb) (hM : digB x.natAbs = M) (hN : M.length = N) (hx : (digB x.natAbs).length ≤ K) (hK : K ≤ 400) : Calls Tryd.prog 16 #[.agg #[.bool m, .string A]] w (DgPost mb M N w) := by
  have h1 := dec_le hx
  rw [← hd]
  exact (rparts_any x (by omega) w).mono fun _ _ ⟨⟨v, he, ho⟩, hb⟩ => by
    subst hm
    subst hM
    subst hN
    have hu := U32s.of_own ho
    obtain ⟨s, c, rfl⟩ := hu.val
    exact ⟨⟨_, _, he, hu⟩, hb⟩
theorem dreadT {S D : ByteArray} {m : Bool} {K : Nat} (x : Int) (hS : (⟨(textZ x).toArray⟩ : ByteArray) = S) (hd : DocV m D x) (hx : (digB x.natAbs).length ≤ K) (hK : K ≤ 800) (w : World) :
    Calls Tryd.prog 10 #[.string S] w fun e w' => e = .returned (.tuple #[.agg #[.bool m, .string D], .int .i64 0]) ∧ Below w.heap.size w w' := by
  subst hS
  have hl := text_len x hx
  exact dread (by rw [ba_size]; omega) (by rw [ba_mk, read_text]) hd w
theorem small_lo {n sn : Int} {sb : Bool} (h : smallV n = .tuple #[.int .i64 sn, .bool sb]) (hn : n < -2305843009213693952) : sn = 0 ∧ sb = false := by
  rw [smallV_no (by unfold smallB; rw [decide_eq_false (by rw [lowZ_eq]; omega)]; rfl)] at h
  cases h
  exact ⟨rfl, rfl⟩
theorem small_hi {n sn : Int} {sb : Bool} (h : smallV n = .tuple #[.int .i64 sn, .bool sb]) (hn : 2305843009213693951 < n) : sn = 0 ∧ sb = false := by
  rw [smallV_no (by unfold smallB; rw [decide_eq_false (p := n ≤ highZ) (by rw [highZ_eq]; omega), Bool.and_false])] at h
  cases h
  exact ⟨rfl, rfl⟩
theorem small_in {n sn : Int} {sb : Bool} (h : smallV n = .tuple #[.int .i64 sn, .bool sb]) (h1 : -2305843009213693952 ≤ n) (h2 : n ≤ 2305843009213693951) : sn = n ∧ sb = true := by
  rw [smallV_yes (by unfold smallB; rw [decide_eq_true (p := n ≤ highZ) (by rw [highZ_eq]; omega), decide_eq_true (by rw [lowZ_eq]; omega)]; rfl)] at h
  cases h
  exact ⟨rfl, rfl⟩

set_option maxRecDepth 100000 in
set_option maxHeartbeats 8000000 in
theorem reads_any (s : ByteArray) (n : Int) (v : Value) (L : List Nat) (h0 : -9223372036854775808 ≤ n) (h1 : n ≤ 9223372036854775807) (hL : ∀ j, j < L.length → L.getD j 0 < 4294967296) (w : World) (ht : TabW w) (hu : U32s w v L) :
    Calls Tryd.prog 3 #[.string s, .int .i64 n, v] w fun e w' => e = .returned (.bool true) ∧ Below w.heap.size w w' := by
  obtain ⟨pl, cl, rfl⟩ := hu.val
  have HA := Lib.hid (awake_any w ht)
  have HT := Lib.hid ht
  clear ht
  by_cases hlong : 300 < s.size ∨ 30 < L.length
  · have HL := Lib.hid hlong
    clear hlong hu hL
    generalize L.length = nl at *
    by_cases h1 : 300 < s.size
    · have d1 : decide ((s.size : Int) > 300) = true := decide_eq_true (by omega)
      go_enter Tryd.func3, Tryd.ntmps3
      go_wp2_with fail
      refine HA.out.mono ?_
      rintro e w1 ⟨rfl, hb1⟩
      have HB1 := Lib.hid hb1
      clear hb1
      go_wp2
      go_ret
      exact ⟨rfl, HB1.out⟩
    · have d1 : decide ((s.size : Int) > 300) = false := decide_eq_false (by omega)
      have d2 : decide ((nl : Int) > 30) = true := decide_eq_true (by have := HL.out; omega)
      go_enter Tryd.func3, Tryd.ntmps3
      go_wp2_with fail
      refine HA.out.mono ?_
      rintro e w1 ⟨rfl, hb1⟩
      have HB1 := Lib.hid hb1
      clear hb1
      go_wp2
      go_ret
      exact ⟨rfl, HB1.out⟩
  have hs : s.size ≤ 300 := by omega
  have hl : L.length ≤ 30 := by omega
  obtain ⟨nl, hnl⟩ : ∃ nl, nl = L.length := ⟨_, rfl⟩
  rw [← hnl] at hu ⊢
  have d1 : decide ((s.size : Int) > 300) = false := decide_eq_false (by omega)
  have d2 : decide ((nl : Int) > 30) = false := decide_eq_false (by omega)
  obtain ⟨o, ho⟩ : ∃ o, readZ s.data.toList = o := ⟨_, rfl⟩
  obtain ⟨z, hz⟩ : ∃ z, (joinZ (decide (n < 0)) L).getD 0 = z := ⟨_, rfl⟩
  obtain ⟨kg, hkg⟩ : ∃ k, errZ (joinZ (decide (n < 0)) L) 1 = k := ⟨_, rfl⟩
  obtain ⟨mz, DZ, hdz⟩ := doc_ex z
  obtain ⟨mn, DN, hdn⟩ := doc_ex n
  obtain ⟨SZ, hSZ⟩ : ∃ S, (⟨(textZ z).toArray⟩ : ByteArray) = S := ⟨_, rfl⟩
  obtain ⟨SN, hSN⟩ : ∃ S, (⟨(textZ n).toArray⟩ : ByteArray) = S := ⟨_, rfl⟩
  obtain ⟨mb, hmb⟩ : ∃ m, decide (z < 0) = m := ⟨_, rfl⟩
  obtain ⟨M, hM⟩ : ∃ M, digB z.natAbs = M := ⟨_, rfl⟩
  obtain ⟨N, hN⟩ : ∃ N, M.length = N := ⟨_, rfl⟩
  obtain ⟨sn, sb, hsm⟩ := small_ex n
  have LZ := Lib.hid (show (digB z.natAbs).length ≤ 30 by rw [← hz]; exact Nat.le_trans (join_dl _ _) hl)
  have LN := Lib.hid (show (digB n.natAbs).length ≤ 3 from digB_len.2 (by rw [bigB_eq]; omega))
  have HU := Lib.hid hu
  have HO := Lib.hid ho
  have HZ := Lib.hid hz
  have HKG := Lib.hid hkg
  have HDZ := Lib.hid hdz
  have HDN := Lib.hid hdn
  have HSZ := Lib.hid hSZ
  have HSN := Lib.hid hSN
  have HMB := Lib.hid hmb
  have HM := Lib.hid hM
  have HN := Lib.hid hN
  have HSM := Lib.hid hsm
  have HSL := Lib.hid hs
  have HLL := Lib.hid hl
  have HL := Lib.hid hL
  have HN0 := Lib.hid h0
  have HN1 := Lib.hid h1
  clear hlong hs hl hnl ho hz hkg hdz hdn hSZ hSN hmb hM hN hsm hu hL h0 h1
  go_enter Tryd.func3, Tryd.ntmps3
  go_wp2_with fail
  refine HA.out.mono ?_
  rintro e w1 ⟨rfl, hb1⟩
  have HBW := Lib.hid hb1
  have HU1 := Lib.hid (HU.out.below hb1)
  clear hb1 HA HU
  cases o with
  | none =>
    as_aux_lemma =>
      go_wp2_with fail
      refine (nreadG (z := 0) (k := 2) HSL.out (by rw [HO.out]; rfl) (by rw [HO.out]; rfl) _).mono ?_
      rintro e w201 ⟨⟨bv1, sv1, lv1, cv1, rfl, hn⟩, hb⟩
      obtain ⟨W201, hW201⟩ : ∃ W, W = w201.alloc (.cells #[.bool bv1, .slice sv1 lv1 cv1] 25) := ⟨_, rfl⟩
      obtain ⟨ga, hga⟩ : ∃ g, g = w201.heap.size := ⟨_, rfl⟩
      have HBW201 := Lib.hid (show Below w1.heap.size w1 W201 by rw [hW201]; exact hb.alloc hb.size _)
      have HVn := Lib.hid (show VarAt W201 ga bv1 sv1 lv1 cv1 by rw [hW201, hga]; exact VarAt.made _ _ _ _ _)
      have HNn := Lib.hid (show NumIs 34 W201 _ 0 by rw [hW201]; exact hn.alloc _)
      have HW201 := Lib.hid hW201
      have HGa := Lib.hid hga
      clear hn hb hW201 hga
      have HNl_1 := Lib.hid (HU1.out.below HBW201.out)
      have HBW_1 := Lib.hid (HBW.out.trans (HBW201.out.mono HBW.out.size))
      clear HU1 HBW
      have HVa_1 := HVn
      have HNa_1 := HNn
      clear HVn HNn HBW201
      go_wp2_with fail
      rw [← HGa.out, ← HW201.out]
      refine (dread_none (by have := HSL.out; omega) HO.out _).mono ?_
      rintro e w202 ⟨rfl, hb⟩
      obtain ⟨W202, hW202⟩ : ∃ W, W = w202.alloc (.cells #[.bool false, .string ⟨#[]⟩] 30) := ⟨_, rfl⟩
      obtain ⟨gb, hgb⟩ : ∃ g, g = w202.heap.size := ⟨_, rfl⟩
      have HBW202 := Lib.hid (show Below W201.heap.size W201 W202 by rw [hW202]; exact hb.alloc hb.size _)
      have HVn := Lib.hid (show DocAt W202 gb false ⟨#[]⟩ by rw [hW202, hgb]; exact DocAt.made _ _ _)
      have HW202 := Lib.hid hW202
      have HGb := Lib.hid hgb
      clear hb hW202 hgb
      have HNl_2 := Lib.hid (HNl_1.out.below HBW202.out)
      have HVa_2 := Lib.hid (HVa_1.out.below HBW202.out HVa_1.out.lt)
      have HNa_2 := Lib.hid (HNa_1.out.below HBW202.out)
      have HBW_2 := Lib.hid (HBW_1.out.trans (HBW202.out.mono HBW_1.out.size))
      clear HNl_1 HVa_1 HNa_1 HBW_1
      have HVb_2 := HVn
      clear HVn HBW202
      go_wp2_with fail
      rw [← HGb.out, ← HW202.out]
      go_wp2_with fail
      go_big_unhide
      have HTB := Lib.hid (HT.out.below HBW_2.out)
      (try dsimp only [List.append])
      have BC := Lib.hid (show Below W202.heap.size W202 W202.drew from (Below.refl _ _).drew)
      refine wp_region_noPanic ?_
      refine wp_region_held_drew (S := fun w' => w'.cell? ⟨ga, 0, none⟩ = some (.bool bv1) ∧ w'.cell? ⟨ga, 1, none⟩ = some (.slice sv1 lv1 cv1) ∧ w'.cell? ⟨gb, 0, none⟩ = some (.bool false) ∧ w'.cell? ⟨gb, 1, none⟩ = some (.string ⟨#[]⟩)) (by kernel_rfl) (by (try dsimp only); exact ⟨(HVa_2.out.below BC.out HVa_2.out.lt).c0, (HVa_2.out.below BC.out HVa_2.out.lt).c1, (HVb_2.out.below BC.out HVb_2.out.lt).c0, (HVb_2.out.below BC.out HVb_2.out.lt).c1⟩) (fun hHeld => ?_)
      refine' take_any 0 47 (v := _) ?hib0 ?hdb0 (by kernel_rfl) (by kernel_rfl) (by kernel_rfl) (fun _ _ _ h => h) ?hyb0 hHeld ?hrb0
      case hib0 => (simp only [List.getElem?_toArray, List.getElem?_cons_zero]; rfl)
      case hdb0 => rfl
      case hyb0 =>
        refine' Or.inl ⟨?hwb0, ?hxb0⟩
        case hwb0 => rfl
        case hxb0 => (intro w hSw; (try dsimp only at hSw); go_simp; (try with_reducible rfl))
      (try simp only [Act.put, List.setIfInBounds_toArray, List.set_cons_zero, List.set_cons_succ])
      refine' take_any 1 48 (v := _) ?hib1 ?hdb1 (by kernel_rfl) (by kernel_rfl) (by kernel_rfl) (fun _ _ _ h => h) ?hyb1 hHeld ?hrb1
      case hib1 => (simp only [List.getElem?_toArray, List.getElem?_cons_succ, List.getElem?_cons_zero]; rfl)
      case hdb1 => rfl
      case hyb1 =>
        refine' Or.inl ⟨?hwb1, ?hxb1⟩
        case hwb1 => rfl
        case hxb1 => (intro w hSw; (try dsimp only at hSw); go_simp; (try with_reducible rfl))
      (try simp only [Act.put, List.setIfInBounds_toArray, List.set_cons_zero, List.set_cons_succ])
      refine' take_any 2 49 (v := _) ?hib2 ?hdb2 (by kernel_rfl) (by kernel_rfl) (by kernel_rfl) (fun _ _ _ h => h) ?hyb2 hHeld ?hrb2
      case hib2 => (simp only [List.getElem?_toArray, List.getElem?_cons_succ, List.getElem?_cons_zero]; rfl)
      case hdb2 => rfl
      case hyb2 =>
        refine' Or.inl ⟨?hwb2, ?hxb2⟩
        case hwb2 => rfl
        case hxb2 => (intro w hSw; (try dsimp only at hSw); go_simp; (try with_reducible rfl))
      (try simp only [Act.put, List.setIfInBounds_toArray, List.set_cons_zero, List.set_cons_succ])
      refine' take_any 3 50 (v := _) ?hib3 ?hdb3 (by kernel_rfl) (by kernel_rfl) (by kernel_rfl) (fun _ _ _ h => h) ?hyb3 hHeld ?hrb3
      case hib3 => (simp only [List.getElem?_toArray, List.getElem?_cons_succ, List.getElem?_cons_zero]; rfl)
      case hdb3 => rfl
      case hyb3 =>
        refine' Or.inl ⟨?hwb3, ?hxb3⟩
        case hwb3 => rfl
        case hxb3 => (intro w hSw; (try dsimp only at hSw); go_simp; (try with_reducible rfl))
      (try simp only [Act.put, List.setIfInBounds_toArray, List.set_cons_zero, List.set_cons_succ])
      refine' take_any 4 51 (v := _) ?hib4 ?hdb4 (by kernel_rfl) (by kernel_rfl) (by kernel_rfl) (fun _ _ _ h => h) ?hyb4 hHeld ?hrb4
      case hib4 => (simp only [List.getElem?_toArray, List.getElem?_cons_succ, List.getElem?_cons_zero]; rfl)
      case hdb4 => rfl
      case hyb4 =>
        refine' Or.inl ⟨?hwb4, ?hxb4⟩
        case hwb4 => rfl
        case hxb4 => (intro w hSw; (try dsimp only at hSw); go_simp; (try with_reducible rfl))
      (try simp only [Act.put, List.setIfInBounds_toArray, List.set_cons_zero, List.set_cons_succ])
      refine' take_any 5 52 (v := _) ?hib5 ?hdb5 (by kernel_rfl) (by kernel_rfl) (by kernel_rfl) (fun _ _ _ h => h) ?hyb5 hHeld ?hrb5
      case hib5 => (simp only [List.getElem?_toArray, List.getElem?_cons_succ, List.getElem?_cons_zero]; rfl)
      case hdb5 => rfl
      case hyb5 =>
        refine' Or.inl ⟨?hwb5, ?hxb5⟩
        case hwb5 => rfl
        case hxb5 => (intro w hSw; (try dsimp only at hSw); go_simp; (try with_reducible rfl))
      (try simp only [Act.put, List.setIfInBounds_toArray, List.set_cons_zero, List.set_cons_succ])
      refine' take_any 6 53 (v := _) ?hib6 ?hdb6 (by kernel_rfl) (by kernel_rfl) (by kernel_rfl) (fun _ _ _ h => h) ?hyb6 hHeld ?hrb6
      case hib6 => (simp only [List.getElem?_toArray, List.getElem?_cons_succ, List.getElem?_cons_zero]; rfl)
      case hdb6 => rfl
      case hyb6 =>
        refine' Or.inl ⟨?hwb6, ?hxb6⟩
        case hwb6 => rfl
        case hxb6 => (intro w hSw; (try dsimp only at hSw); go_simp; (try with_reducible rfl))
      (try simp only [Act.put, List.setIfInBounds_toArray, List.set_cons_zero, List.set_cons_succ])
      refine' take_any 7 54 (v := undef) ?hib7 ?hdb7 (by kernel_rfl) (by kernel_rfl) (by kernel_rfl) (fun _ _ _ h => h) ?hyb7 hHeld ?hrb7
      case hib7 => (simp only [List.getElem?_toArray, List.getElem?_cons_succ, List.getElem?_cons_zero]; rfl)
      case hdb7 => rfl
      case hyb7 => exact Or.inr ⟨by rfl, rfl⟩
      (try simp only [Act.put, List.setIfInBounds_toArray, List.set_cons_zero, List.set_cons_succ])
      refine' take_any 8 55 (v := undef) ?hib8 ?hdb8 (by kernel_rfl) (by kernel_rfl) (by kernel_rfl) (fun _ _ _ h => h) ?hyb8 hHeld ?hrb8
      case hib8 => (simp only [List.getElem?_toArray, List.getElem?_cons_succ, List.getElem?_cons_zero]; rfl)
      case hdb8 => rfl
      case hyb8 => exact Or.inr ⟨by rfl, rfl⟩
      (try simp only [Act.put, List.setIfInBounds_toArray, List.set_cons_zero, List.set_cons_succ])
      refine' take_any 9 56 (v := undef) ?hib9 ?hdb9 (by kernel_rfl) (by kernel_rfl) (by kernel_rfl) (fun _ _ _ h => h) ?hyb9 hHeld ?hrb9
      case hib9 => (simp only [List.getElem?_toArray, List.getElem?_cons_succ, List.getElem?_cons_zero]; rfl)
      case hdb9 => rfl
      case hyb9 => exact Or.inr ⟨by rfl, rfl⟩
      (try simp only [Act.put, List.setIfInBounds_toArray, List.set_cons_zero, List.set_cons_succ])
      refine' take_any 10 57 (v := undef) ?hib10 ?hdb10 (by kernel_rfl) (by kernel_rfl) (by kernel_rfl) (fun _ _ _ h => h) ?hyb10 hHeld ?hrb10
      case hib10 => (simp only [List.getElem?_toArray, List.getElem?_cons_succ, List.getElem?_cons_zero]; rfl)
      case hdb10 => rfl
      case hyb10 => exact Or.inr ⟨by rfl, rfl⟩
      (try simp only [Act.put, List.setIfInBounds_toArray, List.set_cons_zero, List.set_cons_succ])
      refine' take_any 11 58 (v := undef) ?hib11 ?hdb11 (by kernel_rfl) (by kernel_rfl) (by kernel_rfl) (fun _ _ _ h => h) ?hyb11 hHeld ?hrb11
      case hib11 => (simp only [List.getElem?_toArray, List.getElem?_cons_succ, List.getElem?_cons_zero]; rfl)
      case hdb11 => rfl
      case hyb11 => exact Or.inr ⟨by rfl, rfl⟩
      (try simp only [Act.put, List.setIfInBounds_toArray, List.set_cons_zero, List.set_cons_succ])
      refine' take_any 12 59 (v := _) ?hib12 ?hdb12 (by kernel_rfl) (by kernel_rfl) (by kernel_rfl) (fun _ _ _ h => h) ?hyb12 hHeld ?hrb12
      case hib12 => (simp only [List.getElem?_toArray, List.getElem?_cons_succ, List.getElem?_cons_zero]; rfl)
      case hdb12 => rfl
      case hyb12 =>
        refine' Or.inl ⟨?hwb12, ?hxb12⟩
        case hwb12 => rfl
        case hxb12 => (intro w hSw; (try dsimp only at hSw); go_simp; (try with_reducible rfl))
      (try simp only [Act.put, List.setIfInBounds_toArray, List.set_cons_zero, List.set_cons_succ])
      refine' take_any 13 60 (v := _) ?hib13 ?hdb13 (by kernel_rfl) (by kernel_rfl) (by kernel_rfl) (fun _ _ _ h => h) ?hyb13 hHeld ?hrb13
      case hib13 => (simp only [List.getElem?_toArray, List.getElem?_cons_succ, List.getElem?_cons_zero]; rfl)
      case hdb13 => rfl
      case hyb13 =>
        refine' Or.inl ⟨?hwb13, ?hxb13⟩
        case hwb13 => rfl
        case hxb13 => (intro w hSw; (try dsimp only at hSw); go_simp; (try with_reducible rfl))
      (try simp only [Act.put, List.setIfInBounds_toArray, List.set_cons_zero, List.set_cons_succ])
      refine' take_any 14 61 (v := _) ?hib14 ?hdb14 (by kernel_rfl) (by kernel_rfl) (by kernel_rfl) (fun _ _ _ h => h) ?hyb14 hHeld ?hrb14
      case hib14 => (simp only [List.getElem?_toArray, List.getElem?_cons_succ, List.getElem?_cons_zero]; rfl)
      case hdb14 => rfl
      case hyb14 =>
        refine' Or.inl ⟨?hwb14, ?hxb14⟩
        case hwb14 => rfl
        case hxb14 => (intro w hSw; (try dsimp only at hSw); go_simp; (try with_reducible rfl))
      (try simp only [Act.put, List.setIfInBounds_toArray, List.set_cons_zero, List.set_cons_succ])
      refine' take_any 15 62 (v := _) ?hib15 ?hdb15 (by kernel_rfl) (by kernel_rfl) (by kernel_rfl) (fun _ _ _ h => h) ?hyb15 hHeld ?hrb15
      case hib15 => (simp only [List.getElem?_toArray, List.getElem?_cons_succ, List.getElem?_cons_zero]; rfl)
      case hdb15 => rfl
      case hyb15 =>
        refine' Or.inl ⟨?hwb15, ?hxb15⟩
        case hwb15 => rfl
        case hxb15 => (intro w hSw; (try dsimp only at hSw); go_simp; (try with_reducible rfl))
      (try simp only [Act.put, List.setIfInBounds_toArray, List.set_cons_zero, List.set_cons_succ])
      refine' take_any 16 63 (v := _) ?hib16 ?hdb16 (by kernel_rfl) (by kernel_rfl) (by kernel_rfl) (fun _ _ _ h => h) ?hyb16 hHeld ?hrb16
      case hib16 => (simp only [List.getElem?_toArray, List.getElem?_cons_succ, List.getElem?_cons_zero]; rfl)
      case hdb16 => rfl
      case hyb16 =>
        refine' Or.inl ⟨?hwb16, ?hxb16⟩
        case hwb16 => rfl
        case hxb16 => (intro w hSw; (try dsimp only at hSw); go_simp; (try with_reducible rfl))
      (try simp only [Act.put, List.setIfInBounds_toArray, List.set_cons_zero, List.set_cons_succ])
      refine' take_any 17 64 (v := _) ?hib17 ?hdb17 (by kernel_rfl) (by kernel_rfl) (by kernel_rfl) (fun _ _ _ h => h) ?hyb17 hHeld ?hrb17
      case hib17 => (simp only [List.getElem?_toArray, List.getElem?_cons_succ, List.getElem?_cons_zero]; rfl)
      case hdb17 => rfl
      case hyb17 =>
        refine' Or.inl ⟨?hwb17, ?hxb17⟩
        case hwb17 => rfl
        case hxb17 => (intro w hSw; (try dsimp only at hSw); go_simp; (try with_reducible rfl))
      (try simp only [Act.put, List.setIfInBounds_toArray, List.set_cons_zero, List.set_cons_succ])
      refine' take_any 18 65 (v := _) ?hib18 ?hdb18 (by kernel_rfl) (by kernel_rfl) (by kernel_rfl) (fun _ _ _ h => h) ?hyb18 hHeld ?hrb18
      case hib18 => (simp only [List.getElem?_toArray, List.getElem?_cons_succ, List.getElem?_cons_zero]; rfl)
      case hdb18 => rfl
      case hyb18 =>
        refine' Or.inl ⟨?hwb18, ?hxb18⟩
        case hwb18 => rfl
        case hxb18 => (intro w hSw; (try dsimp only at hSw); go_simp; (try with_reducible rfl))
      (try simp only [Act.put, List.setIfInBounds_toArray, List.set_cons_zero, List.set_cons_succ])
      refine' take_call 19 ?hib19 (by kernel_rfl) ?hrb19
      case hib19 => (simp only [List.getElem?_toArray, List.getElem?_cons_succ, List.getElem?_cons_zero]; rfl)
      intro K hK
      go_simp
      go_at_call 11
      refine (ntextS (K := 34) ⟨#[48]⟩ text_0 (HNa_2.out.below BC.out) (by omega) (HTB.out.below BC.out)).mono ?_
      rintro e w101 ⟨rfl, hb⟩
      have HB1 := Lib.hid hb
      replace BC := Lib.hid (BC.out.trans (hb.mono BC.out.size))
      clear hb
      go_wp2_with fail
      clear hHeld
      refine hK.out _ _ (by (try dsimp only); exact ⟨(HVa_2.out.below BC.out HVa_2.out.lt).c0, (HVa_2.out.below BC.out HVa_2.out.lt).c1, (HVb_2.out.below BC.out HVb_2.out.lt).c0, (HVb_2.out.below BC.out HVb_2.out.lt).c1⟩) (fun hHeld => ?_)
      clear hK K
      (try simp only [Act.put, List.setIfInBounds_toArray, List.set_cons_zero, List.set_cons_succ])
      refine' take_any 20 67 (v := _) ?hib20 ?hdb20 (by kernel_rfl) (by kernel_rfl) (by kernel_rfl) (fun _ _ _ h => h) ?hyb20 hHeld ?hrb20
      case hib20 => (simp only [List.getElem?_toArray, List.getElem?_cons_succ, List.getElem?_cons_zero]; rfl)
      case hdb20 => rfl
      case hyb20 =>
        refine' Or.inl ⟨?hwb20, ?hxb20⟩
        case hwb20 => rfl
        case hxb20 => (intro w hSw; (try dsimp only at hSw); go_simp; (try with_reducible rfl))
      (try simp only [Act.put, List.setIfInBounds_toArray, List.set_cons_zero, List.set_cons_succ])
      refine' take_any 21 68 (v := _) ?hib21 ?hdb21 (by kernel_rfl) (by kernel_rfl) (by kernel_rfl) (fun _ _ _ h => h) ?hyb21 hHeld ?hrb21
      case hib21 => (simp only [List.getElem?_toArray, List.getElem?_cons_succ, List.getElem?_cons_zero]; rfl)
      case hdb21 => rfl
      case hyb21 =>
        refine' Or.inl ⟨?hwb21, ?hxb21⟩
        case hwb21 => rfl
        case hxb21 => (intro w hSw; (try dsimp only at hSw); go_simp; (try with_reducible rfl))
      (try simp only [Act.put, List.setIfInBounds_toArray, List.set_cons_zero, List.set_cons_succ])
      refine' take_any 22 69 (v := _) ?hib22 ?hdb22 (by kernel_rfl) (by kernel_rfl) (by kernel_rfl) (fun _ _ _ h => h) ?hyb22 hHeld ?hrb22
      case hib22 => (simp only [List.getElem?_toArray, List.getElem?_cons_succ, List.getElem?_cons_zero]; rfl)
      case hdb22 => rfl
      case hyb22 =>
        refine' Or.inl ⟨?hwb22, ?hxb22⟩
        case hwb22 => rfl
        case hxb22 => (intro w hSw; (try dsimp only at hSw); go_simp; (try with_reducible rfl))
      (try simp only [Act.put, List.setIfInBounds_toArray, List.set_cons_zero, List.set_cons_succ])
      refine wpAnyH_done (by kernel_rfl) ?_ _
      refine NoPanic.normal ?_
      have BD := Lib.hid BC.out
      have HNl_3 := Lib.hid (HNl_2.out.below BD.out)
      have HVa_3 := Lib.hid (HVa_2.out.below BD.out HVa_2.out.lt)
      have HNa_3 := Lib.hid (HNa_2.out.below BD.out)
      have HVb_3 := Lib.hid (HVb_2.out.below BD.out HVb_2.out.lt)
      have HBW_3 := Lib.hid (HBW_2.out.trans (BD.out.mono HBW_2.out.size))
      clear HNl_2 HVa_2 HNa_2 HVb_2 HBW_2
      clear BD BC HTB HB1
      go_wp2_with fail
      refine (njoinG HLL.out HL.out HZ.out HKG.out HNl_3.out).mono ?_
      rintro e w204 ⟨⟨bv4, sv4, lv4, cv4, rfl, hn⟩, hb⟩
      obtain ⟨W204, hW204⟩ : ∃ W, W = w204.alloc (.cells #[.bool bv4, .slice sv4 lv4 cv4] 25) := ⟨_, rfl⟩
      obtain ⟨gx, hgx⟩ : ∃ g, g = w204.heap.size := ⟨_, rfl⟩
      have HBW204 := Lib.hid (show Below w101.heap.size w101 W204 by rw [hW204]; exact hb.alloc hb.size _)
      have HVn := Lib.hid (show VarAt W204 gx bv4 sv4 lv4 cv4 by rw [hW204, hgx]; exact VarAt.made _ _ _ _ _)
      have HNn := Lib.hid (show NumIs 30 W204 _ z by rw [hW204]; exact hn.alloc _)
      have HW204 := Lib.hid hW204
      have HGx := Lib.hid hgx
      clear hn hb hW204 hgx
      have HNl_4 := Lib.hid (HNl_3.out.below HBW204.out)
      have HVa_4 := Lib.hid (HVa_3.out.below HBW204.out HVa_3.out.lt)
      have HNa_4 := Lib.hid (HNa_3.out.below HBW204.out)
      have HVb_4 := Lib.hid (HVb_3.out.below HBW204.out HVb_3.out.lt)
      have HBW_4 := Lib.hid (HBW_3.out.trans (HBW204.out.mono HBW_3.out.size))
      clear HNl_3 HVa_3 HNa_3 HVb_3 HBW_3
      have HVx_4 := HVn
      have HNx_4 := HNn
      clear HVn HNn HBW204
      go_wp2_with fail
      rw [← HGx.out, ← HW204.out]
      refine (djoin HLL.out HL.out HZ.out HKG.out HDZ.out HNl_4.out).mono ?_
      rintro e w205 ⟨rfl, hb⟩
      have qx0 := (HVx_4.out.below hb HVx_4.out.lt).c0
      have qx1 := (HVx_4.out.below hb HVx_4.out.lt).c1
      have tx := (HVx_4.out.below hb HVx_4.out.lt).lt
      obtain ⟨W205, hW205⟩ : ∃ W, W = w205.alloc (.cells #[.bool mz, .string DZ] 30) := ⟨_, rfl⟩
      obtain ⟨gy, hgy⟩ : ∃ g, g = w205.heap.size := ⟨_, rfl⟩
      have HBW205 := Lib.hid (show Below W204.heap.size W204 W205 by rw [hW205]; exact hb.alloc hb.size _)
      have HVn := Lib.hid (show DocAt W205 gy mz DZ by rw [hW205, hgy]; exact DocAt.made _ _ _)
      have HW205 := Lib.hid hW205
      have HGy := Lib.hid hgy
      clear hb hW205 hgy
      have HNl_5 := Lib.hid (HNl_4.out.below HBW205.out)
      have HVa_5 := Lib.hid (HVa_4.out.below HBW205.out HVa_4.out.lt)
      have HNa_5 := Lib.hid (HNa_4.out.below HBW205.out)
      have HVb_5 := Lib.hid (HVb_4.out.below HBW205.out HVb_4.out.lt)
      have HVx_5 := Lib.hid (HVx_4.out.below HBW205.out HVx_4.out.lt)
      have HNx_5 := Lib.hid (HNx_4.out.below HBW205.out)
      have HBW_5 := Lib.hid (HBW_4.out.trans (HBW205.out.mono HBW_4.out.size))
      clear HNl_4 HVa_4 HNa_4 HVb_4 HVx_4 HNx_4 HBW_4
      have HVy_5 := HVn
      clear HVn HBW205
      go_wp2_with fail
      rw [← HGy.out, ← HW205.out]
      refine (npartsG (K := 30) HMB.out HM.out HN.out HNx_5.out (by omega)).mono ?_
      rintro e w206 ⟨⟨pk, ck, rfl, hu⟩, hb⟩
      have HBw206 := Lib.hid hb
      have HUk_6 := Lib.hid hu
      clear hb hu
      have HNl_6 := Lib.hid (HNl_5.out.below HBw206.out)
      have HVa_6 := Lib.hid (HVa_5.out.below HBw206.out HVa_5.out.lt)
      have HNa_6 := Lib.hid (HNa_5.out.below HBw206.out)
      have HVb_6 := Lib.hid (HVb_5.out.below HBw206.out HVb_5.out.lt)
      have HVx_6 := Lib.hid (HVx_5.out.below HBw206.out HVx_5.out.lt)
      have HNx_6 := Lib.hid (HNx_5.out.below HBw206.out)
      have HVy_6 := Lib.hid (HVy_5.out.below HBw206.out HVy_5.out.lt)
      have HBW_6 := Lib.hid (HBW_5.out.trans (HBw206.out.mono HBW_5.out.size))
      clear HNl_5 HVa_5 HNa_5 HVb_5 HVx_5 HNx_5 HVy_5 HBW_5
      clear HBw206
      clear qx0 qx1 tx
      have qy0 := HVy_6.out.c0
      have qy1 := HVy_6.out.c1
      have ty := HVy_6.out.lt
      go_wp2_with fail
      refine (dparts HDZ.out HMB.out HM.out HN.out LZ.out (by omega)).mono ?_
      rintro e w207 ⟨⟨pp, cp, rfl, hu⟩, hb⟩
      have HBw207 := Lib.hid hb
      have HUp_7 := Lib.hid hu
      clear hb hu
      have HNl_7 := Lib.hid (HNl_6.out.below HBw207.out)
      have HVa_7 := Lib.hid (HVa_6.out.below HBw207.out HVa_6.out.lt)
      have HNa_7 := Lib.hid (HNa_6.out.below HBw207.out)
      have HVb_7 := Lib.hid (HVb_6.out.below HBw207.out HVb_6.out.lt)
      have HVx_7 := Lib.hid (HVx_6.out.below HBw207.out HVx_6.out.lt)
      have HNx_7 := Lib.hid (HNx_6.out.below HBw207.out)
      have HVy_7 := Lib.hid (HVy_6.out.below HBw207.out HVy_6.out.lt)
      have HNk_7 := Lib.hid (HUk_6.out.below HBw207.out)
      have HBW_7 := Lib.hid (HBW_6.out.trans (HBw207.out.mono HBW_6.out.size))
      clear HNl_6 HVa_6 HNa_6 HVb_6 HVx_6 HNx_6 HVy_6 HUk_6 HBW_6
      clear HBw207
      clear qy0 qy1 ty
      go_wp2_with fail
      go_big_unhide
      have HTB := Lib.hid (HT.out.below HBW_7.out)
      (try dsimp only [List.append])
      have BC := Lib.hid (show Below w207.heap.size w207 w207.drew from (Below.refl _ _).drew)
      refine wp_region_noPanic ?_
      refine wp_region_held_drew (S := fun w' => w'.cell? ⟨gx, 0, none⟩ = some (.bool bv4) ∧ w'.cell? ⟨gx, 1, none⟩ = some (.slice sv4 lv4 cv4) ∧ w'.cell? ⟨gy, 0, none⟩ = some (.bool mz) ∧ w'.cell? ⟨gy, 1, none⟩ = some (.string DZ)) (by kernel_rfl) (by (try dsimp only); exact ⟨(HVx_7.out.below BC.out HVx_7.out.lt).c0, (HVx_7.out.below BC.out HVx_7.out.lt).c1, (HVy_7.out.below BC.out HVy_7.out.lt).c0, (HVy_7.out.below BC.out HVy_7.out.lt).c1⟩) (fun hHeld => ?_)
      refine' take_any 0 94 (v := _) ?hic0 ?hdc0 (by kernel_rfl) (by kernel_rfl) (by kernel_rfl) (fun _ _ _ h => h) ?hyc0 hHeld ?hrc0
      case hic0 => (simp only [List.getElem?_toArray, List.getElem?_cons_zero]; rfl)
      case hdc0 => rfl
      case hyc0 =>
        refine' Or.inl ⟨?hwc0, ?hxc0⟩
        case hwc0 => rfl
        case hxc0 => (intro w hSw; (try dsimp only at hSw); go_simp; (try with_reducible rfl))
      (try simp only [Act.put, List.setIfInBounds_toArray, List.set_cons_zero, List.set_cons_succ])
      refine' take_any 1 95 (v := _) ?hic1 ?hdc1 (by kernel_rfl) (by kernel_rfl) (by kernel_rfl) (fun _ _ _ h => h) ?hyc1 hHeld ?hrc1
      case hic1 => (simp only [List.getElem?_toArray, List.getElem?_cons_succ, List.getElem?_cons_zero]; rfl)
      case hdc1 => rfl
      case hyc1 =>
        refine' Or.inl ⟨?hwc1, ?hxc1⟩
        case hwc1 => rfl
        case hxc1 => (intro w hSw; (try dsimp only at hSw); go_simp; (try with_reducible rfl))
      (try simp only [Act.put, List.setIfInBounds_toArray, List.set_cons_zero, List.set_cons_succ])
      refine' take_any 2 96 (v := _) ?hic2 ?hdc2 (by kernel_rfl) (by kernel_rfl) (by kernel_rfl) (fun _ _ _ h => h) ?hyc2 hHeld ?hrc2
      case hic2 => (simp only [List.getElem?_toArray, List.getElem?_cons_succ, List.getElem?_cons_zero]; rfl)
      case hdc2 => rfl
      case hyc2 =>
        refine' Or.inl ⟨?hwc2, ?hxc2⟩
        case hwc2 => rfl
        case hxc2 => (intro w hSw; (try dsimp only at hSw); go_simp; (try with_reducible rfl))
      (try simp only [Act.put, List.setIfInBounds_toArray, List.set_cons_zero, List.set_cons_succ])
      refine' take_any 3 97 (v := _) ?hic3 ?hdc3 (by kernel_rfl) (by kernel_rfl) (by kernel_rfl) (fun _ _ _ h => h) ?hyc3 hHeld ?hrc3
      case hic3 => (simp only [List.getElem?_toArray, List.getElem?_cons_succ, List.getElem?_cons_zero]; rfl)
      case hdc3 => rfl
      case hyc3 =>
        refine' Or.inl ⟨?hwc3, ?hxc3⟩
        case hwc3 => rfl
        case hxc3 => (intro w hSw; (try dsimp only at hSw); go_simp; (try with_reducible rfl))
      (try simp only [Act.put, List.setIfInBounds_toArray, List.set_cons_zero, List.set_cons_succ])
      refine' take_any 4 98 (v := _) ?hic4 ?hdc4 (by kernel_rfl) (by kernel_rfl) (by kernel_rfl) (fun _ _ _ h => h) ?hyc4 hHeld ?hrc4
      case hic4 => (simp only [List.getElem?_toArray, List.getElem?_cons_succ, List.getElem?_cons_zero]; rfl)
      case hdc4 => rfl
      case hyc4 =>
        refine' Or.inl ⟨?hwc4, ?hxc4⟩
        case hwc4 => rfl
        case hxc4 => (intro w hSw; (try dsimp only at hSw); go_simp; (try with_reducible rfl))
      (try simp only [Act.put, List.setIfInBounds_toArray, List.set_cons_zero, List.set_cons_succ])
      refine' take_any 6 100 (v := _) ?hic6 ?hdc6 (by kernel_rfl) (by kernel_rfl) (by kernel_rfl) (fun _ _ _ h => h) ?hyc6 hHeld ?hrc6
      case hic6 => (simp only [List.getElem?_toArray, List.getElem?_cons_succ, List.getElem?_cons_zero]; rfl)
      case hdc6 => rfl
      case hyc6 =>
        refine' Or.inl ⟨?hwc6, ?hxc6⟩
        case hwc6 => rfl
        case hxc6 => (intro w hSw; (try dsimp only at hSw); go_simp; (try with_reducible rfl))
      (try simp only [Act.put, List.setIfInBounds_toArray, List.set_cons_zero, List.set_cons_succ])
      refine' take_call 5 ?hic5 (by kernel_rfl) ?hrc5
      case hic5 => (simp only [List.getElem?_toArray, List.getElem?_cons_succ, List.getElem?_cons_zero]; rfl)
      intro K hK
      go_simp
      go_at_call 11
      refine (ntextS (K := 30) SZ HSZ.out (HNx_7.out.below BC.out) (by omega) (HTB.out.below BC.out)).mono ?_
      rintro e w101 ⟨rfl, hb⟩
      have HB1 := Lib.hid hb
      replace BC := Lib.hid (BC.out.trans (hb.mono BC.out.size))
      clear hb
      go_wp2_with fail
      clear hHeld
      refine hK.out _ _ (by (try dsimp only); exact ⟨(HVx_7.out.below BC.out HVx_7.out.lt).c0, (HVx_7.out.below BC.out HVx_7.out.lt).c1, (HVy_7.out.below BC.out HVy_7.out.lt).c0, (HVy_7.out.below BC.out HVy_7.out.lt).c1⟩) (fun hHeld => ?_)
      clear hK K
      (try simp only [Act.put, List.setIfInBounds_toArray, List.set_cons_zero, List.set_cons_succ])
      refine' take_call 7 ?hic7 (by kernel_rfl) ?hrc7
      case hic7 => (simp only [List.getElem?_toArray, List.getElem?_cons_succ, List.getElem?_cons_zero]; rfl)
      intro K hK
      go_simp
      have _hb := HB1.out
      clear _hb
      go_at_call 12
      refine (dtext (K := 30) HDZ.out HSZ.out LZ.out (by omega) _).mono ?_
      rintro e w102 ⟨rfl, hb⟩
      have HB2 := Lib.hid hb
      replace BC := Lib.hid (BC.out.trans (hb.mono BC.out.size))
      clear hb
      go_wp2_with fail
      clear hHeld
      refine hK.out _ _ (by (try dsimp only); exact ⟨(HVx_7.out.below BC.out HVx_7.out.lt).c0, (HVx_7.out.below BC.out HVx_7.out.lt).c1, (HVy_7.out.below BC.out HVy_7.out.lt).c0, (HVy_7.out.below BC.out HVy_7.out.lt).c1⟩) (fun hHeld => ?_)
      clear hK K
      (try simp only [Act.put, List.setIfInBounds_toArray, List.set_cons_zero, List.set_cons_succ])
      refine' take_any 8 102 (v := _) ?hic8 ?hdc8 (by kernel_rfl) (by kernel_rfl) (by kernel_rfl) (fun _ _ _ h => h) ?hyc8 hHeld ?hrc8
      case hic8 => (simp only [List.getElem?_toArray, List.getElem?_cons_succ, List.getElem?_cons_zero]; rfl)
      case hdc8 => rfl
      case hyc8 =>
        refine' Or.inl ⟨?hwc8, ?hxc8⟩
        case hwc8 => rfl
        case hxc8 => (intro w hSw; (try dsimp only at hSw); go_simp; (try with_reducible rfl))
      (try simp only [Act.put, List.setIfInBounds_toArray, List.set_cons_zero, List.set_cons_succ])
      refine' take_any 9 103 (v := _) ?hic9 ?hdc9 (by kernel_rfl) (by kernel_rfl) (by kernel_rfl) (fun _ _ _ h => h) ?hyc9 hHeld ?hrc9
      case hic9 => (simp only [List.getElem?_toArray, List.getElem?_cons_succ, List.getElem?_cons_zero]; rfl)
      case hdc9 => rfl
      case hyc9 =>
        refine' Or.inl ⟨?hwc9, ?hxc9⟩
        case hwc9 => rfl
        case hxc9 => (intro w hSw; (try dsimp only at hSw); go_simp; (try with_reducible rfl))
      (try simp only [Act.put, List.setIfInBounds_toArray, List.set_cons_zero, List.set_cons_succ])
      refine' take_any 10 104 (v := _) ?hic10 ?hdc10 (by kernel_rfl) (by kernel_rfl) (by kernel_rfl) (fun _ _ _ h => h) ?hyc10 hHeld ?hrc10
      case hic10 => (simp only [List.getElem?_toArray, List.getElem?_cons_succ, List.getElem?_cons_zero]; rfl)
      case hdc10 => rfl
      case hyc10 =>
        refine' Or.inl ⟨?hwc10, ?hxc10⟩
        case hwc10 => rfl
        case hxc10 => (intro w hSw; (try dsimp only at hSw); go_simp; (try with_reducible rfl))
      (try simp only [Act.put, List.setIfInBounds_toArray, List.set_cons_zero, List.set_cons_succ])
      refine' take_any 11 105 (v := _) ?hic11 ?hdc11 (by kernel_rfl) (by kernel_rfl) (by kernel_rfl) (fun _ _ _ h => h) ?hyc11 hHeld ?hrc11
      case hic11 => (simp only [List.getElem?_toArray, List.getElem?_cons_succ, List.getElem?_cons_zero]; rfl)
      case hdc11 => rfl
      case hyc11 =>
        refine' Or.inl ⟨?hwc11, ?hxc11⟩
        case hwc11 => rfl
        case hxc11 => (intro w hSw; (try dsimp only at hSw); go_simp; (try with_reducible rfl))
      (try simp only [Act.put, List.setIfInBounds_toArray, List.set_cons_zero, List.set_cons_succ])
      refine' take_any 12 106 (v := _) ?hic12 ?hdc12 (by kernel_rfl) (by kernel_rfl) (by kernel_rfl) (fun _ _ _ h => h) ?hyc12 hHeld ?hrc12
      case hic12 => (simp only [List.getElem?_toArray, List.getElem?_cons_succ, List.getElem?_cons_zero]; rfl)
      case hdc12 => rfl
      case hyc12 =>
        refine' Or.inl ⟨?hwc12, ?hxc12⟩
        case hwc12 => rfl
        case hxc12 => (intro w hSw; (try dsimp only at hSw); go_simp; (try with_reducible rfl))
      (try simp only [Act.put, List.setIfInBounds_toArray, List.set_cons_zero, List.set_cons_succ])
      refine' take_any 13 107 (v := _) ?hic13 ?hdc13 (by kernel_rfl) (by kernel_rfl) (by kernel_rfl) (fun _ _ _ h => h) ?hyc13 hHeld ?hrc13
      case hic13 => (simp only [List.getElem?_toArray, List.getElem?_cons_succ, List.getElem?_cons_zero]; rfl)
      case hdc13 => rfl
      case hyc13 =>
        refine' Or.inl ⟨?hwc13, ?hxc13⟩
        case hwc13 => rfl
        case hxc13 => (intro w hSw; (try dsimp only at hSw); go_simp; (try with_reducible rfl))
      (try simp only [Act.put, List.setIfInBounds_toArray, List.set_cons_zero, List.set_cons_succ])
      refine' take_any 14 108 (v := _) ?hic14 ?hdc14 (by kernel_rfl) (by kernel_rfl) (by kernel_rfl) (fun _ _ _ h => h) ?hyc14 hHeld ?hrc14
      case hic14 => (simp only [List.getElem?_toArray, List.getElem?_cons_succ, List.getElem?_cons_zero]; rfl)
      case hdc14 => rfl
      case hyc14 =>
        refine' Or.inl ⟨?hwc14, ?hxc14⟩
        case hwc14 => rfl
        case hxc14 => (intro w hSw; (try dsimp only at hSw); go_simp; (try with_reducible rfl))
      (try simp only [Act.put, List.setIfInBounds_toArray, List.set_cons_zero, List.set_cons_succ])
      refine' take_any 15 109 (v := _) ?hic15 ?hdc15 (by kernel_rfl) (by kernel_rfl) (by kernel_rfl) (fun _ _ _ h => h) ?hyc15 hHeld ?hrc15
      case hic15 => (simp only [List.getElem?_toArray, List.getElem?_cons_succ, List.getElem?_cons_zero]; rfl)
      case hdc15 => rfl
      case hyc15 =>
        refine' Or.inl ⟨?hwc15, ?hxc15⟩
        case hwc15 => rfl
        case hxc15 => (intro w hSw; (try dsimp only at hSw); go_simp; (try with_reducible rfl))
      (try simp only [Act.put, List.setIfInBounds_toArray, List.set_cons_zero, List.set_cons_succ])
      refine' take_any 16 110 (v := _) ?hic16 ?hdc16 (by kernel_rfl) (by kernel_rfl) (by kernel_rfl) (fun _ _ _ h => h) ?hyc16 hHeld ?hrc16
      case hic16 => (simp only [List.getElem?_toArray, List.getElem?_cons_succ, List.getElem?_cons_zero]; rfl)
      case hdc16 => rfl
      case hyc16 =>
        refine' Or.inl ⟨?hwc16, ?hxc16⟩
        case hwc16 => rfl
        case hxc16 => (intro w hSw; (try dsimp only at hSw); go_simp; (try with_reducible rfl))
      (try simp only [Act.put, List.setIfInBounds_toArray, List.set_cons_zero, List.set_cons_succ])
      refine' take_any 17 111 (v := _) ?hic17 ?hdc17 (by kernel_rfl) (by kernel_rfl) (by kernel_rfl) (fun _ _ _ h => h) ?hyc17 hHeld ?hrc17
      case hic17 => (simp only [List.getElem?_toArray, List.getElem?_cons_succ, List.getElem?_cons_zero]; rfl)
      case hdc17 => rfl
      case hyc17 =>
        refine' Or.inl ⟨?hwc17, ?hxc17⟩
        case hwc17 => rfl
        case hxc17 => (intro w hSw; (try dsimp only at hSw); go_simp; (try with_reducible rfl))
      (try simp only [Act.put, List.setIfInBounds_toArray, List.set_cons_zero, List.set_cons_succ])
      refine' take_any 18 112 (v := _) ?hic18 ?hdc18 (by kernel_rfl) (by kernel_rfl) (by kernel_rfl) (fun _ _ _ h => h) ?hyc18 hHeld ?hrc18
      case hic18 => (simp only [List.getElem?_toArray, List.getElem?_cons_succ, List.getElem?_cons_zero]; rfl)
      case hdc18 => rfl
      case hyc18 =>
        refine' Or.inl ⟨?hwc18, ?hxc18⟩
        case hwc18 => rfl
        case hxc18 => (intro w hSw; (try dsimp only at hSw); go_simp; (try with_reducible rfl))
      (try simp only [Act.put, List.setIfInBounds_toArray, List.set_cons_zero, List.set_cons_succ])
      refine' take_any 19 113 (v := _) ?hic19 ?hdc19 (by kernel_rfl) (by kernel_rfl) (by kernel_rfl) (fun _ _ _ h => h) ?hyc19 hHeld ?hrc19
      case hic19 => (simp only [List.getElem?_toArray, List.getElem?_cons_succ, List.getElem?_cons_zero]; rfl)
      case hdc19 => rfl
      case hyc19 =>
        refine' Or.inl ⟨?hwc19, ?hxc19⟩
        case hwc19 => rfl
        case hxc19 => (intro w hSw; (try dsimp only at hSw); go_simp; (try with_reducible rfl))
      (try simp only [Act.put, List.setIfInBounds_toArray, List.set_cons_zero, List.set_cons_succ])
      refine' take_any 20 114 (v := _) ?hic20 ?hdc20 (by kernel_rfl) (by kernel_rfl) (by kernel_rfl) (fun _ _ _ h => h) ?hyc20 hHeld ?hrc20
      case hic20 => (simp only [List.getElem?_toArray, List.getElem?_cons_succ, List.getElem?_cons_zero]; rfl)
      case hdc20 => rfl
      case hyc20 =>
        refine' Or.inl ⟨?hwc20, ?hxc20⟩
        case hwc20 => rfl
        case hxc20 => (intro w hSw; (try dsimp only at hSw); go_simp; (try with_reducible rfl))
      (try simp only [Act.put, List.setIfInBounds_toArray, List.set_cons_zero, List.set_cons_succ])
      refine' take_any 21 115 (v := _) ?hic21 ?hdc21 (by kernel_rfl) (by kernel_rfl) (by kernel_rfl) (fun _ _ _ h => h) ?hyc21 hHeld ?hrc21
      case hic21 => (simp only [List.getElem?_toArray, List.getElem?_cons_succ, List.getElem?_cons_zero]; rfl)
      case hdc21 => rfl
      case hyc21 =>
        refine' Or.inl ⟨?hwc21, ?hxc21⟩
        case hwc21 => rfl
        case hxc21 => (intro w hSw; (try dsimp only at hSw); go_simp; (try with_reducible rfl))
      (try simp only [Act.put, List.setIfInBounds_toArray, List.set_cons_zero, List.set_cons_succ])
      refine wpAnyH_done (by kernel_rfl) ?_ _
      refine NoPanic.normal ?_
      have BD := Lib.hid BC.out
      have HNl_8 := Lib.hid (HNl_7.out.below BD.out)
      have HVa_8 := Lib.hid (HVa_7.out.below BD.out HVa_7.out.lt)
      have HNa_8 := Lib.hid (HNa_7.out.below BD.out)
      have HVb_8 := Lib.hid (HVb_7.out.below BD.out HVb_7.out.lt)
      have HVx_8 := Lib.hid (HVx_7.out.below BD.out HVx_7.out.lt)
      have HNx_8 := Lib.hid (HNx_7.out.below BD.out)
      have HVy_8 := Lib.hid (HVy_7.out.below BD.out HVy_7.out.lt)
      have HNk_8 := Lib.hid (HNk_7.out.below BD.out)
      have HNp_8 := Lib.hid (HUp_7.out.below BD.out)
      have HBW_8 := Lib.hid (HBW_7.out.trans (BD.out.mono HBW_7.out.size))
      clear HNl_7 HVa_7 HNa_7 HVb_7 HVx_7 HNx_7 HVy_7 HNk_7 HUp_7 HBW_7
      clear BD BC HTB HB1 HB2
      have hNb : N ≤ 30 := by rw [← HN.out, ← HM.out]; exact LZ.out
      go_wp2
      go_loopw [20] (fun i wr => ∃ j : Nat, j ≤ N ∧ i = .int .i64 j ∧ Hid (Below w102.heap.size w102 wr)) (fun i _ => N - (intOf i).toNat)
      case atStart => exact ⟨0, by omega, rfl, Lib.hid (Below.refl _ _)⟩
      case round =>
        obtain ⟨j, hj, rfl, HBr⟩ := hrel
        have j0 : (0 : Int) ≤ j := Int.natCast_nonneg _
        by_cases hgo : j < N
        · have g1 : (j : Int) < N := by omega
          obtain ⟨b1, o1, rfl, hb1, hc1⟩ := (HNk_8.out.below HBr.out).at (show j < _ by rw [HN.out]; exact hgo)
          obtain ⟨b2, o2, rfl, hb2, hc2⟩ := (HNp_8.out.below HBr.out).at (show j < _ by rw [HN.out]; exact hgo)
          obtain ⟨d, hd⟩ : ∃ d, d = M.getD j 0 := ⟨_, rfl⟩
          rw [← hd] at hc1 hc2
          have c1 : wr.cell? ⟨b1, o1 + j, none⟩ = some (.int .u32 d) := hc1
          have c2 : wr.cell? ⟨b2, o2 + j, none⟩ = some (.int .u32 d) := hc2
          clear hd hc1 hc2
          go_wp2_with fail
          go_quiet (fail)
          go_wp2
          go_roundw
          case rel => exact ⟨j + 1, by omega, by go_num, Lib.hid (below_drewN HBr.out _)⟩
          case measure => simp [intOf]; omega
        · have g1 : ¬ (j : Int) < N := by omega
          clear hgo hj
          have HNl_9 := Lib.hid (HNl_8.out.below HBr.out)
          have HVa_9 := Lib.hid (HVa_8.out.below HBr.out HVa_8.out.lt)
          have HNa_9 := Lib.hid (HNa_8.out.below HBr.out)
          have HVb_9 := Lib.hid (HVb_8.out.below HBr.out HVb_8.out.lt)
          have HVx_9 := Lib.hid (HVx_8.out.below HBr.out HVx_8.out.lt)
          have HNx_9 := Lib.hid (HNx_8.out.below HBr.out)
          have HVy_9 := Lib.hid (HVy_8.out.below HBr.out HVy_8.out.lt)
          have HNk_9 := Lib.hid (HNk_8.out.below HBr.out)
          have HNp_9 := Lib.hid (HNp_8.out.below HBr.out)
          have HBW_9 := Lib.hid (HBW_8.out.trans (HBr.out.mono HBW_8.out.size))
          clear HNl_8 HVa_8 HNa_8 HVb_8 HVx_8 HNx_8 HVy_8 HNk_8 HNp_8 HBW_8
          clear HBr
          go_wp2_with fail
          refine (nof n HN0.out HN1.out _).mono ?_
          rintro e w210 ⟨⟨bn10, sn10, ln10, cn10, rfl, hn⟩, hb⟩
          have HBw210 := Lib.hid hb
          have HNo_10 := Lib.hid hn
          clear hn
          clear hb
          have HNl_10 := Lib.hid (HNl_9.out.below HBw210.out)
          have HVa_10 := Lib.hid (HVa_9.out.below HBw210.out HVa_9.out.lt)
          have HNa_10 := Lib.hid (HNa_9.out.below HBw210.out)
          have HVb_10 := Lib.hid (HVb_9.out.below HBw210.out HVb_9.out.lt)
          have HVx_10 := Lib.hid (HVx_9.out.below HBw210.out HVx_9.out.lt)
          have HNx_10 := Lib.hid (HNx_9.out.below HBw210.out)
          have HVy_10 := Lib.hid (HVy_9.out.below HBw210.out HVy_9.out.lt)
          have HNk_10 := Lib.hid (HNk_9.out.below HBw210.out)
          have HNp_10 := Lib.hid (HNp_9.out.below HBw210.out)
          have HBW_10 := Lib.hid (HBW_9.out.trans (HBw210.out.mono HBW_9.out.size))
          clear HNl_9 HVa_9 HNa_9 HVb_9 HVx_9 HNx_9 HVy_9 HNk_9 HNp_9 HBW_9
          clear HBw210
          go_wp2_with fail
          refine (nsmallG (K := 3) HSM.out HNo_10.out (by omega)).mono ?_
          rintro e w211 ⟨rfl, hb⟩
          have HBw211 := Lib.hid hb
          clear hb
          have HNl_11 := Lib.hid (HNl_10.out.below HBw211.out)
          have HVa_11 := Lib.hid (HVa_10.out.below HBw211.out HVa_10.out.lt)
          have HNa_11 := Lib.hid (HNa_10.out.below HBw211.out)
          have HVb_11 := Lib.hid (HVb_10.out.below HBw211.out HVb_10.out.lt)
          have HVx_11 := Lib.hid (HVx_10.out.below HBw211.out HVx_10.out.lt)
          have HNx_11 := Lib.hid (HNx_10.out.below HBw211.out)
          have HVy_11 := Lib.hid (HVy_10.out.below HBw211.out HVy_10.out.lt)
          have HNk_11 := Lib.hid (HNk_10.out.below HBw211.out)
          have HNp_11 := Lib.hid (HNp_10.out.below HBw211.out)
          have HNo_11 := Lib.hid (HNo_10.out.below HBw211.out)
          have HBW_11 := Lib.hid (HBW_10.out.trans (HBw211.out.mono HBW_10.out.size))
          clear HNl_10 HVa_10 HNa_10 HVb_10 HVx_10 HNx_10 HVy_10 HNk_10 HNp_10 HNo_10 HBW_10
          clear HBw211
          go_wp2_with fail
          refine (nof n HN0.out HN1.out _).mono ?_
          rintro e w212 ⟨⟨bn12, sn12, ln12, cn12, rfl, hn⟩, hb⟩
          have HBw212 := Lib.hid hb
          have HNu_12 := Lib.hid hn
          clear hn
          clear hb
          have HNl_12 := Lib.hid (HNl_11.out.below HBw212.out)
          have HVa_12 := Lib.hid (HVa_11.out.below HBw212.out HVa_11.out.lt)
          have HNa_12 := Lib.hid (HNa_11.out.below HBw212.out)
          have HVb_12 := Lib.hid (HVb_11.out.below HBw212.out HVb_11.out.lt)
          have HVx_12 := Lib.hid (HVx_11.out.below HBw212.out HVx_11.out.lt)
          have HNx_12 := Lib.hid (HNx_11.out.below HBw212.out)
          have HVy_12 := Lib.hid (HVy_11.out.below HBw212.out HVy_11.out.lt)
          have HNk_12 := Lib.hid (HNk_11.out.below HBw212.out)
          have HNp_12 := Lib.hid (HNp_11.out.below HBw212.out)
          have HNo_12 := Lib.hid (HNo_11.out.below HBw212.out)
          have HBW_12 := Lib.hid (HBW_11.out.trans (HBw212.out.mono HBW_11.out.size))
          clear HNl_11 HVa_11 HNa_11 HVb_11 HVx_11 HNx_11 HVy_11 HNk_11 HNp_11 HNo_11 HBW_11
          clear HBw212
          go_wp2_with fail
          refine (ntextS (K := 3) SN HSN.out HNu_12.out (by omega) (HT.out.below HBW_12.out)).mono ?_
          rintro e w213 ⟨rfl, hb⟩
          have HBw213 := Lib.hid hb
          clear hb
          have HNl_13 := Lib.hid (HNl_12.out.below HBw213.out)
          have HVa_13 := Lib.hid (HVa_12.out.below HBw213.out HVa_12.out.lt)
          have HNa_13 := Lib.hid (HNa_12.out.below HBw213.out)
          have HVb_13 := Lib.hid (HVb_12.out.below HBw213.out HVb_12.out.lt)
          have HVx_13 := Lib.hid (HVx_12.out.below HBw213.out HVx_12.out.lt)
          have HNx_13 := Lib.hid (HNx_12.out.below HBw213.out)
          have HVy_13 := Lib.hid (HVy_12.out.below HBw213.out HVy_12.out.lt)
          have HNk_13 := Lib.hid (HNk_12.out.below HBw213.out)
          have HNp_13 := Lib.hid (HNp_12.out.below HBw213.out)
          have HNo_13 := Lib.hid (HNo_12.out.below HBw213.out)
          have HNu_13 := Lib.hid (HNu_12.out.below HBw213.out)
          have HBW_13 := Lib.hid (HBW_12.out.trans (HBw213.out.mono HBW_12.out.size))
          clear HNl_12 HVa_12 HNa_12 HVb_12 HVx_12 HNx_12 HVy_12 HNk_12 HNp_12 HNo_12 HNu_12 HBW_12
          clear HBw213
          go_wp2_with fail
          refine (dreadT (K := 3) n HSN.out HDN.out LN.out (by omega) _).mono ?_
          rintro e w214 ⟨rfl, hb⟩
          obtain ⟨W214, hW214⟩ : ∃ W, W = w214.alloc (.cells #[.bool mn, .string DN] 30) := ⟨_, rfl⟩
          obtain ⟨gd, hgd⟩ : ∃ g, g = w214.heap.size := ⟨_, rfl⟩
          have HBW214 := Lib.hid (show Below w213.heap.size w213 W214 by rw [hW214]; exact hb.alloc hb.size _)
          have HVn := Lib.hid (show DocAt W214 gd mn DN by rw [hW214, hgd]; exact DocAt.made _ _ _)
          have HW214 := Lib.hid hW214
          have HGd := Lib.hid hgd
          clear hb hW214 hgd
          have HNl_14 := Lib.hid (HNl_13.out.below HBW214.out)
          have HVa_14 := Lib.hid (HVa_13.out.below HBW214.out HVa_13.out.lt)
          have HNa_14 := Lib.hid (HNa_13.out.below HBW214.out)
          have HVb_14 := Lib.hid (HVb_13.out.below HBW214.out HVb_13.out.lt)
          have HVx_14 := Lib.hid (HVx_13.out.below HBW214.out HVx_13.out.lt)
          have HNx_14 := Lib.hid (HNx_13.out.below HBW214.out)
          have HVy_14 := Lib.hid (HVy_13.out.below HBW214.out HVy_13.out.lt)
          have HNk_14 := Lib.hid (HNk_13.out.below HBW214.out)
          have HNp_14 := Lib.hid (HNp_13.out.below HBW214.out)
          have HNo_14 := Lib.hid (HNo_13.out.below HBW214.out)
          have HNu_14 := Lib.hid (HNu_13.out.below HBW214.out)
          have HBW_14 := Lib.hid (HBW_13.out.trans (HBW214.out.mono HBW_13.out.size))
          clear HNl_13 HVa_13 HNa_13 HVb_13 HVx_13 HNx_13 HVy_13 HNk_13 HNp_13 HNo_13 HNu_13 HBW_13
          have HVd_14 := HVn
          clear HVn HBW214
          go_wp2_with fail
          rw [← HGd.out, ← HW214.out]
          refine (dsmall HDN.out HSM.out LN.out (by omega) _).mono ?_
          rintro e w215 ⟨rfl, hb⟩
          have HBw215 := Lib.hid hb
          clear hb
          have HNl_15 := Lib.hid (HNl_14.out.below HBw215.out)
          have HVa_15 := Lib.hid (HVa_14.out.below HBw215.out HVa_14.out.lt)
          have HNa_15 := Lib.hid (HNa_14.out.below HBw215.out)
          have HVb_15 := Lib.hid (HVb_14.out.below HBw215.out HVb_14.out.lt)
          have HVx_15 := Lib.hid (HVx_14.out.below HBw215.out HVx_14.out.lt)
          have HNx_15 := Lib.hid (HNx_14.out.below HBw215.out)
          have HVy_15 := Lib.hid (HVy_14.out.below HBw215.out HVy_14.out.lt)
          have HNk_15 := Lib.hid (HNk_14.out.below HBw215.out)
          have HNp_15 := Lib.hid (HNp_14.out.below HBw215.out)
          have HNo_15 := Lib.hid (HNo_14.out.below HBw215.out)
          have HNu_15 := Lib.hid (HNu_14.out.below HBw215.out)
          have HVd_15 := Lib.hid (HVd_14.out.below HBw215.out HVd_14.out.lt)
          have HBW_15 := Lib.hid (HBW_14.out.trans (HBw215.out.mono HBW_14.out.size))
          clear HNl_14 HVa_14 HNa_14 HVb_14 HVx_14 HNx_14 HVy_14 HNk_14 HNp_14 HNo_14 HNu_14 HVd_14 HBW_14
          clear HBw215
          by_cases hlo : n < -2305843009213693952
          · obtain ⟨rfl, rfl⟩ := small_lo HSM.out hlo
            have d3 : decide (n ≥ -2305843009213693952) = false := decide_eq_false (by omega)
            clear hlo
            go_wp2
            go_ret
            exact ⟨rfl, HBW_15.out⟩
          have d3 : decide (n ≥ -2305843009213693952) = true := decide_eq_true (by omega)
          by_cases hhi : 2305843009213693951 < n
          · obtain ⟨rfl, rfl⟩ := small_hi HSM.out hhi
            have d4 : decide (n ≤ 2305843009213693951) = false := decide_eq_false (by omega)
            clear hlo hhi
            go_wp2
            go_ret
            exact ⟨rfl, HBW_15.out⟩
          have d4 : decide (n ≤ 2305843009213693951) = true := decide_eq_true (by omega)
          have hin := small_in HSM.out (by omega) (by omega)
          have hi1 := hin.1
          have hi2 := hin.2
          clear hlo hhi hin
          subst hi2
          subst hi1
          go_wp2
          go_ret
          exact ⟨rfl, HBW_15.out⟩
  | some x =>
    obtain ⟨mx, DX, hdx⟩ := doc_ex x
    obtain ⟨SX, hSX⟩ : ∃ S, (⟨(textZ x).toArray⟩ : ByteArray) = S := ⟨_, rfl⟩
    have LX := Lib.hid (show (digB x.natAbs).length ≤ 34 by have h := read_dl s; rw [HO.out] at h; exact Nat.le_trans h (by have := HSL.out; omega))
    have HDX := Lib.hid hdx
    have HSX := Lib.hid hSX
    clear hdx hSX
    as_aux_lemma =>
      go_wp2_with fail
      refine (nreadG (z := x) (k := 0) HSL.out (by rw [HO.out]; rfl) (by rw [HO.out]; rfl) _).mono ?_
      rintro e w201 ⟨⟨bv1, sv1, lv1, cv1, rfl, hn⟩, hb⟩
      obtain ⟨W201, hW201⟩ : ∃ W, W = w201.alloc (.cells #[.bool bv1, .slice sv1 lv1 cv1] 25) := ⟨_, rfl⟩
      obtain ⟨ga, hga⟩ : ∃ g, g = w201.heap.size := ⟨_, rfl⟩
      have HBW201 := Lib.hid (show Below w1.heap.size w1 W201 by rw [hW201]; exact hb.alloc hb.size _)
      have HVn := Lib.hid (show VarAt W201 ga bv1 sv1 lv1 cv1 by rw [hW201, hga]; exact VarAt.made _ _ _ _ _)
      have HNn := Lib.hid (show NumIs 34 W201 _ x by rw [hW201]; exact hn.alloc _)
      have HW201 := Lib.hid hW201
      have HGa := Lib.hid hga
      clear hn hb hW201 hga
      have HNl_1 := Lib.hid (HU1.out.below HBW201.out)
      have HBW_1 := Lib.hid (HBW.out.trans (HBW201.out.mono HBW.out.size))
      clear HU1 HBW
      have HVa_1 := HVn
      have HNa_1 := HNn
      clear HVn HNn HBW201
      go_wp2_with fail
      rw [← HGa.out, ← HW201.out]
      refine (dread (by have := HSL.out; omega) HO.out HDX.out _).mono ?_
      rintro e w202 ⟨rfl, hb⟩
      obtain ⟨W202, hW202⟩ : ∃ W, W = w202.alloc (.cells #[.bool mx, .string DX] 30) := ⟨_, rfl⟩
      obtain ⟨gb, hgb⟩ : ∃ g, g = w202.heap.size := ⟨_, rfl⟩
      have HBW202 := Lib.hid (show Below W201.heap.size W201 W202 by rw [hW202]; exact hb.alloc hb.size _)
      have HVn := Lib.hid (show DocAt W202 gb mx DX by rw [hW202, hgb]; exact DocAt.made _ _ _)
      have HW202 := Lib.hid hW202
      have HGb := Lib.hid hgb
      clear hb hW202 hgb
      have HNl_2 := Lib.hid (HNl_1.out.below HBW202.out)
      have HVa_2 := Lib.hid (HVa_1.out.below HBW202.out HVa_1.out.lt)
      have HNa_2 := Lib.hid (HNa_1.out.below HBW202.out)
      have HBW_2 := Lib.hid (HBW_1.out.trans (HBW202.out.mono HBW_1.out.size))
      clear HNl_1 HVa_1 HNa_1 HBW_1
      have HVb_2 := HVn
      clear HVn HBW202
      go_wp2_with fail
      rw [← HGb.out, ← HW202.out]
      go_wp2_with fail
      go_big_unhide
      have HTB := Lib.hid (HT.out.below HBW_2.out)
      (try dsimp only [List.append])
      have BC := Lib.hid (show Below W202.heap.size W202 W202.drew from (Below.refl _ _).drew)
      refine wp_region_noPanic ?_
      refine wp_region_held_drew (S := fun w' => w'.cell? ⟨ga, 0, none⟩ = some (.bool bv1) ∧ w'.cell? ⟨ga, 1, none⟩ = some (.slice sv1 lv1 cv1) ∧ w'.cell? ⟨gb, 0, none⟩ = some (.bool mx) ∧ w'.cell? ⟨gb, 1, none⟩ = some (.string DX)) (by kernel_rfl) (by (try dsimp only); exact ⟨(HVa_2.out.below BC.out HVa_2.out.lt).c0, (HVa_2.out.below BC.out HVa_2.out.lt).c1, (HVb_2.out.below BC.out HVb_2.out.lt).c0, (HVb_2.out.below BC.out HVb_2.out.lt).c1⟩) (fun hHeld => ?_)
      refine' take_any 0 47 (v := _) ?hid0 ?hdd0 (by kernel_rfl) (by kernel_rfl) (by kernel_rfl) (fun _ _ _ h => h) ?hyd0 hHeld ?hrd0
      case hid0 => (simp only [List.getElem?_toArray, List.getElem?_cons_zero]; rfl)
      case hdd0 => rfl
      case hyd0 =>
        refine' Or.inl ⟨?hwd0, ?hxd0⟩
        case hwd0 => rfl
        case hxd0 => (intro w hSw; (try dsimp only at hSw); go_simp; (try with_reducible rfl))
      (try simp only [Act.put, List.setIfInBounds_toArray, List.set_cons_zero, List.set_cons_succ])
      refine' take_any 1 48 (v := _) ?hid1 ?hdd1 (by kernel_rfl) (by kernel_rfl) (by kernel_rfl) (fun _ _ _ h => h) ?hyd1 hHeld ?hrd1
      case hid1 => (simp only [List.getElem?_toArray, List.getElem?_cons_succ, List.getElem?_cons_zero]; rfl)
      case hdd1 => rfl
      case hyd1 =>
        refine' Or.inl ⟨?hwd1, ?hxd1⟩
        case hwd1 => rfl
        case hxd1 => (intro w hSw; (try dsimp only at hSw); go_simp; (try with_reducible rfl))
      (try simp only [Act.put, List.setIfInBounds_toArray, List.set_cons_zero, List.set_cons_succ])
      refine' take_any 2 49 (v := _) ?hid2 ?hdd2 (by kernel_rfl) (by kernel_rfl) (by kernel_rfl) (fun _ _ _ h => h) ?hyd2 hHeld ?hrd2
      case hid2 => (simp only [List.getElem?_toArray, List.getElem?_cons_succ, List.getElem?_cons_zero]; rfl)
      case hdd2 => rfl
      case hyd2 =>
        refine' Or.inl ⟨?hwd2, ?hxd2⟩
        case hwd2 => rfl
        case hxd2 => (intro w hSw; (try dsimp only at hSw); go_simp; (try with_reducible rfl))
      (try simp only [Act.put, List.setIfInBounds_toArray, List.set_cons_zero, List.set_cons_succ])
      refine' take_any 3 50 (v := _) ?hid3 ?hdd3 (by kernel_rfl) (by kernel_rfl) (by kernel_rfl) (fun _ _ _ h => h) ?hyd3 hHeld ?hrd3
      case hid3 => (simp only [List.getElem?_toArray, List.getElem?_cons_succ, List.getElem?_cons_zero]; rfl)
      case hdd3 => rfl
      case hyd3 =>
        refine' Or.inl ⟨?hwd3, ?hxd3⟩
        case hwd3 => rfl
        case hxd3 => (intro w hSw; (try dsimp only at hSw); go_simp; (try with_reducible rfl))
      (try simp only [Act.put, List.setIfInBounds_toArray, List.set_cons_zero, List.set_cons_succ])
      refine' take_any 4 51 (v := _) ?hid4 ?hdd4 (by kernel_rfl) (by kernel_rfl) (by kernel_rfl) (fun _ _ _ h => h) ?hyd4 hHeld ?hrd4
      case hid4 => (simp only [List.getElem?_toArray, List.getElem?_cons_succ, List.getElem?_cons_zero]; rfl)
      case hdd4 => rfl
      case hyd4 =>
        refine' Or.inl ⟨?hwd4, ?hxd4⟩
        case hwd4 => rfl
        case hxd4 => (intro w hSw; (try dsimp only at hSw); go_simp; (try with_reducible rfl))
      (try simp only [Act.put, List.setIfInBounds_toArray, List.set_cons_zero, List.set_cons_succ])
      refine' take_any 5 52 (v := _) ?hid5 ?hdd5 (by kernel_rfl) (by kernel_rfl) (by kernel_rfl) (fun _ _ _ h => h) ?hyd5 hHeld ?hrd5
      case hid5 => (simp only [List.getElem?_toArray, List.getElem?_cons_succ, List.getElem?_cons_zero]; rfl)
      case hdd5 => rfl
      case hyd5 =>
        refine' Or.inl ⟨?hwd5, ?hxd5⟩
        case hwd5 => rfl
        case hxd5 => (intro w hSw; (try dsimp only at hSw); go_simp; (try with_reducible rfl))
      (try simp only [Act.put, List.setIfInBounds_toArray, List.set_cons_zero, List.set_cons_succ])
      refine' take_any 6 53 (v := _) ?hid6 ?hdd6 (by kernel_rfl) (by kernel_rfl) (by kernel_rfl) (fun _ _ _ h => h) ?hyd6 hHeld ?hrd6
      case hid6 => (simp only [List.getElem?_toArray, List.getElem?_cons_succ, List.getElem?_cons_zero]; rfl)
      case hdd6 => rfl
      case hyd6 =>
        refine' Or.inl ⟨?hwd6, ?hxd6⟩
        case hwd6 => rfl
        case hxd6 => (intro w hSw; (try dsimp only at hSw); go_simp; (try with_reducible rfl))
      (try simp only [Act.put, List.setIfInBounds_toArray, List.set_cons_zero, List.set_cons_succ])
      refine' take_any 7 54 (v := _) ?hid7 ?hdd7 (by kernel_rfl) (by kernel_rfl) (by kernel_rfl) (fun _ _ _ h => h) ?hyd7 hHeld ?hrd7
      case hid7 => (simp only [List.getElem?_toArray, List.getElem?_cons_succ, List.getElem?_cons_zero]; rfl)
      case hdd7 => rfl
      case hyd7 =>
        refine' Or.inl ⟨?hwd7, ?hxd7⟩
        case hwd7 => rfl
        case hxd7 => (intro w hSw; (try dsimp only at hSw); go_simp; (try with_reducible rfl))
      (try simp only [Act.put, List.setIfInBounds_toArray, List.set_cons_zero, List.set_cons_succ])
      refine' take_any 9 56 (v := _) ?hid9 ?hdd9 (by kernel_rfl) (by kernel_rfl) (by kernel_rfl) (fun _ _ _ h => h) ?hyd9 hHeld ?hrd9
      case hid9 => (simp only [List.getElem?_toArray, List.getElem?_cons_succ, List.getElem?_cons_zero]; rfl)
      case hdd9 => rfl
      case hyd9 =>
        refine' Or.inl ⟨?hwd9, ?hxd9⟩
        case hwd9 => rfl
        case hxd9 => (intro w hSw; (try dsimp only at hSw); go_simp; (try with_reducible rfl))
      (try simp only [Act.put, List.setIfInBounds_toArray, List.set_cons_zero, List.set_cons_succ])
      refine' take_call 8 ?hid8 (by kernel_rfl) ?hrd8
      case hid8 => (simp only [List.getElem?_toArray, List.getElem?_cons_succ, List.getElem?_cons_zero]; rfl)
      intro K hK
      go_simp
      go_at_call 11
      refine (ntextS (K := 34) SX HSX.out (HNa_2.out.below BC.out) (by omega) (HTB.out.below BC.out)).mono ?_
      rintro e w101 ⟨rfl, hb⟩
      have HB1 := Lib.hid hb
      replace BC := Lib.hid (BC.out.trans (hb.mono BC.out.size))
      clear hb
      go_wp2_with fail
      clear hHeld
      refine hK.out _ _ (by (try dsimp only); exact ⟨(HVa_2.out.below BC.out HVa_2.out.lt).c0, (HVa_2.out.below BC.out HVa_2.out.lt).c1, (HVb_2.out.below BC.out HVb_2.out.lt).c0, (HVb_2.out.below BC.out HVb_2.out.lt).c1⟩) (fun hHeld => ?_)
      clear hK K
      (try simp only [Act.put, List.setIfInBounds_toArray, List.set_cons_zero, List.set_cons_succ])
      refine' take_call 10 ?hid10 (by kernel_rfl) ?hrd10
      case hid10 => (simp only [List.getElem?_toArray, List.getElem?_cons_succ, List.getElem?_cons_zero]; rfl)
      intro K hK
      go_simp
      have _hb := HB1.out
      clear _hb
      go_at_call 12
      refine (dtext (K := 34) HDX.out HSX.out LX.out (by omega) _).mono ?_
      rintro e w102 ⟨rfl, hb⟩
      have HB2 := Lib.hid hb
      replace BC := Lib.hid (BC.out.trans (hb.mono BC.out.size))
      clear hb
      go_wp2_with fail
      clear hHeld
      refine hK.out _ _ (by (try dsimp only); exact ⟨(HVa_2.out.below BC.out HVa_2.out.lt).c0, (HVa_2.out.below BC.out HVa_2.out.lt).c1, (HVb_2.out.below BC.out HVb_2.out.lt).c0, (HVb_2.out.below BC.out HVb_2.out.lt).c1⟩) (fun hHeld => ?_)
      clear hK K
      (try simp only [Act.put, List.setIfInBounds_toArray, List.set_cons_zero, List.set_cons_succ])
      refine' take_any 11 58 (v := _) ?hid11 ?hdd11 (by kernel_rfl) (by kernel_rfl) (by kernel_rfl) (fun _ _ _ h => h) ?hyd11 hHeld ?hrd11
      case hid11 => (simp only [List.getElem?_toArray, List.getElem?_cons_succ, List.getElem?_cons_zero]; rfl)
      case hdd11 => rfl
      case hyd11 =>
        refine' Or.inl ⟨?hwd11, ?hxd11⟩
        case hwd11 => rfl
        case hxd11 => (intro w hSw; (try dsimp only at hSw); go_simp; (try with_reducible rfl))
      (try simp only [Act.put, List.setIfInBounds_toArray, List.set_cons_zero, List.set_cons_succ])
      refine' take_any 12 59 (v := _) ?hid12 ?hdd12 (by kernel_rfl) (by kernel_rfl) (by kernel_rfl) (fun _ _ _ h => h) ?hyd12 hHeld ?hrd12
      case hid12 => (simp only [List.getElem?_toArray, List.getElem?_cons_succ, List.getElem?_cons_zero]; rfl)
      case hdd12 => rfl
      case hyd12 =>
        refine' Or.inl ⟨?hwd12, ?hxd12⟩
        case hwd12 => rfl
        case hxd12 => (intro w hSw; (try dsimp only at hSw); go_simp; (try with_reducible rfl))
      (try simp only [Act.put, List.setIfInBounds_toArray, List.set_cons_zero, List.set_cons_succ])
      refine' take_any 13 60 (v := _) ?hid13 ?hdd13 (by kernel_rfl) (by kernel_rfl) (by kernel_rfl) (fun _ _ _ h => h) ?hyd13 hHeld ?hrd13
      case hid13 => (simp only [List.getElem?_toArray, List.getElem?_cons_succ, List.getElem?_cons_zero]; rfl)
      case hdd13 => rfl
      case hyd13 =>
        refine' Or.inl ⟨?hwd13, ?hxd13⟩
        case hwd13 => rfl
        case hxd13 => (intro w hSw; (try dsimp only at hSw); go_simp; (try with_reducible rfl))
      (try simp only [Act.put, List.setIfInBounds_toArray, List.set_cons_zero, List.set_cons_succ])
      refine' take_any 14 61 (v := _) ?hid14 ?hdd14 (by kernel_rfl) (by kernel_rfl) (by kernel_rfl) (fun _ _ _ h => h) ?hyd14 hHeld ?hrd14
      case hid14 => (simp only [List.getElem?_toArray, List.getElem?_cons_succ, List.getElem?_cons_zero]; rfl)
      case hdd14 => rfl
      case hyd14 =>
        refine' Or.inl ⟨?hwd14, ?hxd14⟩
        case hwd14 => rfl
        case hxd14 => (intro w hSw; (try dsimp only at hSw); go_simp; (try with_reducible rfl))
      (try simp only [Act.put, List.setIfInBounds_toArray, List.set_cons_zero, List.set_cons_succ])
      refine' take_any 15 62 (v := _) ?hid15 ?hdd15 (by kernel_rfl) (by kernel_rfl) (by kernel_rfl) (fun _ _ _ h => h) ?hyd15 hHeld ?hrd15
      case hid15 => (simp only [List.getElem?_toArray, List.getElem?_cons_succ, List.getElem?_cons_zero]; rfl)
      case hdd15 => rfl
      case hyd15 =>
        refine' Or.inl ⟨?hwd15, ?hxd15⟩
        case hwd15 => rfl
        case hxd15 => (intro w hSw; (try dsimp only at hSw); go_simp; (try with_reducible rfl))
      (try simp only [Act.put, List.setIfInBounds_toArray, List.set_cons_zero, List.set_cons_succ])
      refine' take_any 16 63 (v := _) ?hid16 ?hdd16 (by kernel_rfl) (by kernel_rfl) (by kernel_rfl) (fun _ _ _ h => h) ?hyd16 hHeld ?hrd16
      case hid16 => (simp only [List.getElem?_toArray, List.getElem?_cons_succ, List.getElem?_cons_zero]; rfl)
      case hdd16 => rfl
      case hyd16 =>
        refine' Or.inl ⟨?hwd16, ?hxd16⟩
        case hwd16 => rfl
        case hxd16 => (intro w hSw; (try dsimp only at hSw); go_simp; (try with_reducible rfl))
      (try simp only [Act.put, List.setIfInBounds_toArray, List.set_cons_zero, List.set_cons_succ])
      refine' take_any 17 64 (v := _) ?hid17 ?hdd17 (by kernel_rfl) (by kernel_rfl) (by kernel_rfl) (fun _ _ _ h => h) ?hyd17 hHeld ?hrd17
      case hid17 => (simp only [List.getElem?_toArray, List.getElem?_cons_succ, List.getElem?_cons_zero]; rfl)
      case hdd17 => rfl
      case hyd17 =>
        refine' Or.inl ⟨?hwd17, ?hxd17⟩
        case hwd17 => rfl
        case hxd17 => (intro w hSw; (try dsimp only at hSw); go_simp; (try with_reducible rfl))
      (try simp only [Act.put, List.setIfInBounds_toArray, List.set_cons_zero, List.set_cons_succ])
      refine' take_any 18 65 (v := undef) ?hid18 ?hdd18 (by kernel_rfl) (by kernel_rfl) (by kernel_rfl) (fun _ _ _ h => h) ?hyd18 hHeld ?hrd18
      case hid18 => (simp only [List.getElem?_toArray, List.getElem?_cons_succ, List.getElem?_cons_zero]; rfl)
      case hdd18 => rfl
      case hyd18 => exact Or.inr ⟨by rfl, rfl⟩
      (try simp only [Act.put, List.setIfInBounds_toArray, List.set_cons_zero, List.set_cons_succ])
      refine' take_any 19 66 (v := undef) ?hid19 ?hdd19 (by kernel_rfl) (by kernel_rfl) (by kernel_rfl) (fun _ _ _ h => h) ?hyd19 hHeld ?hrd19
      case hid19 => (simp only [List.getElem?_toArray, List.getElem?_cons_succ, List.getElem?_cons_zero]; rfl)
      case hdd19 => rfl
      case hyd19 => exact Or.inr ⟨by rfl, rfl⟩
      (try simp only [Act.put, List.setIfInBounds_toArray, List.set_cons_zero, List.set_cons_succ])
      refine' take_any 20 67 (v := undef) ?hid20 ?hdd20 (by kernel_rfl) (by kernel_rfl) (by kernel_rfl) (fun _ _ _ h => h) ?hyd20 hHeld ?hrd20
      case hid20 => (simp only [List.getElem?_toArray, List.getElem?_cons_succ, List.getElem?_cons_zero]; rfl)
      case hdd20 => rfl
      case hyd20 => exact Or.inr ⟨by rfl, rfl⟩
      (try simp only [Act.put, List.setIfInBounds_toArray, List.set_cons_zero, List.set_cons_succ])
      refine' take_any 21 68 (v := _) ?hid21 ?hdd21 (by kernel_rfl) (by kernel_rfl) (by kernel_rfl) (fun _ _ _ h => h) ?hyd21 hHeld ?hrd21
      case hid21 => (simp only [List.getElem?_toArray, List.getElem?_cons_succ, List.getElem?_cons_zero]; rfl)
      case hdd21 => rfl
      case hyd21 =>
        refine' Or.inl ⟨?hwd21, ?hxd21⟩
        case hwd21 => rfl
        case hxd21 => (intro w hSw; (try dsimp only at hSw); go_simp; (try with_reducible rfl))
      (try simp only [Act.put, List.setIfInBounds_toArray, List.set_cons_zero, List.set_cons_succ])
      refine' take_any 22 69 (v := _) ?hid22 ?hdd22 (by kernel_rfl) (by kernel_rfl) (by kernel_rfl) (fun _ _ _ h => h) ?hyd22 hHeld ?hrd22
      case hid22 => (simp only [List.getElem?_toArray, List.getElem?_cons_succ, List.getElem?_cons_zero]; rfl)
      case hdd22 => rfl
      case hyd22 =>
        refine' Or.inl ⟨?hwd22, ?hxd22⟩
        case hwd22 => rfl
        case hxd22 => (intro w hSw; (try dsimp only at hSw); go_simp; (try with_reducible rfl))
      (try simp only [Act.put, List.setIfInBounds_toArray, List.set_cons_zero, List.set_cons_succ])
      refine wpAnyH_done (by kernel_rfl) ?_ _
      refine NoPanic.normal ?_
      have BD := Lib.hid BC.out
      have HNl_3 := Lib.hid (HNl_2.out.below BD.out)
      have HVa_3 := Lib.hid (HVa_2.out.below BD.out HVa_2.out.lt)
      have HNa_3 := Lib.hid (HNa_2.out.below BD.out)
      have HVb_3 := Lib.hid (HVb_2.out.below BD.out HVb_2.out.lt)
      have HBW_3 := Lib.hid (HBW_2.out.trans (BD.out.mono HBW_2.out.size))
      clear HNl_2 HVa_2 HNa_2 HVb_2 HBW_2
      clear BD BC HTB HB1 HB2
      go_wp2_with fail
      refine (njoinG HLL.out HL.out HZ.out HKG.out HNl_3.out).mono ?_
      rintro e w204 ⟨⟨bv4, sv4, lv4, cv4, rfl, hn⟩, hb⟩
      obtain ⟨W204, hW204⟩ : ∃ W, W = w204.alloc (.cells #[.bool bv4, .slice sv4 lv4 cv4] 25) := ⟨_, rfl⟩
      obtain ⟨gx, hgx⟩ : ∃ g, g = w204.heap.size := ⟨_, rfl⟩
      have HBW204 := Lib.hid (show Below w102.heap.size w102 W204 by rw [hW204]; exact hb.alloc hb.size _)
      have HVn := Lib.hid (show VarAt W204 gx bv4 sv4 lv4 cv4 by rw [hW204, hgx]; exact VarAt.made _ _ _ _ _)
      have HNn := Lib.hid (show NumIs 30 W204 _ z by rw [hW204]; exact hn.alloc _)
      have HW204 := Lib.hid hW204
      have HGx := Lib.hid hgx
      clear hn hb hW204 hgx
      have HNl_4 := Lib.hid (HNl_3.out.below HBW204.out)
      have HVa_4 := Lib.hid (HVa_3.out.below HBW204.out HVa_3.out.lt)
      have HNa_4 := Lib.hid (HNa_3.out.below HBW204.out)
      have HVb_4 := Lib.hid (HVb_3.out.below HBW204.out HVb_3.out.lt)
      have HBW_4 := Lib.hid (HBW_3.out.trans (HBW204.out.mono HBW_3.out.size))
      clear HNl_3 HVa_3 HNa_3 HVb_3 HBW_3
      have HVx_4 := HVn
      have HNx_4 := HNn
      clear HVn HNn HBW204
      go_wp2_with fail
      rw [← HGx.out, ← HW204.out]
      refine (djoin HLL.out HL.out HZ.out HKG.out HDZ.out HNl_4.out).mono ?_
      rintro e w205 ⟨rfl, hb⟩
      have qx0 := (HVx_4.out.below hb HVx_4.out.lt).c0
      have qx1 := (HVx_4.out.below hb HVx_4.out.lt).c1
      have tx := (HVx_4.out.below hb HVx_4.out.lt).lt
      obtain ⟨W205, hW205⟩ : ∃ W, W = w205.alloc (.cells #[.bool mz, .string DZ] 30) := ⟨_, rfl⟩
      obtain ⟨gy, hgy⟩ : ∃ g, g = w205.heap.size := ⟨_, rfl⟩
      have HBW205 := Lib.hid (show Below W204.heap.size W204 W205 by rw [hW205]; exact hb.alloc hb.size _)
      have HVn := Lib.hid (show DocAt W205 gy mz DZ by rw [hW205, hgy]; exact DocAt.made _ _ _)
      have HW205 := Lib.hid hW205
      have HGy := Lib.hid hgy
      clear hb hW205 hgy
      have HNl_5 := Lib.hid (HNl_4.out.below HBW205.out)
      have HVa_5 := Lib.hid (HVa_4.out.below HBW205.out HVa_4.out.lt)
      have HNa_5 := Lib.hid (HNa_4.out.below HBW205.out)
      have HVb_5 := Lib.hid (HVb_4.out.below HBW205.out HVb_4.out.lt)
      have HVx_5 := Lib.hid (HVx_4.out.below HBW205.out HVx_4.out.lt)
      have HNx_5 := Lib.hid (HNx_4.out.below HBW205.out)
      have HBW_5 := Lib.hid (HBW_4.out.trans (HBW205.out.mono HBW_4.out.size))
      clear HNl_4 HVa_4 HNa_4 HVb_4 HVx_4 HNx_4 HBW_4
      have HVy_5 := HVn
      clear HVn HBW205
      go_wp2_with fail
      rw [← HGy.out, ← HW205.out]
      refine (npartsG (K := 30) HMB.out HM.out HN.out HNx_5.out (by omega)).mono ?_
      rintro e w206 ⟨⟨pk, ck, rfl, hu⟩, hb⟩
      have HBw206 := Lib.hid hb
      have HUk_6 := Lib.hid hu
      clear hb hu
      have HNl_6 := Lib.hid (HNl_5.out.below HBw206.out)
      have HVa_6 := Lib.hid (HVa_5.out.below HBw206.out HVa_5.out.lt)
      have HNa_6 := Lib.hid (HNa_5.out.below HBw206.out)
      have HVb_6 := Lib.hid (HVb_5.out.below HBw206.out HVb_5.out.lt)
      have HVx_6 := Lib.hid (HVx_5.out.below HBw206.out HVx_5.out.lt)
      have HNx_6 := Lib.hid (HNx_5.out.below HBw206.out)
      have HVy_6 := Lib.hid (HVy_5.out.below HBw206.out HVy_5.out.lt)
      have HBW_6 := Lib.hid (HBW_5.out.trans (HBw206.out.mono HBW_5.out.size))
      clear HNl_5 HVa_5 HNa_5 HVb_5 HVx_5 HNx_5 HVy_5 HBW_5
      clear HBw206
      clear qx0 qx1 tx
      have qy0 := HVy_6.out.c0
      have qy1 := HVy_6.out.c1
      have ty := HVy_6.out.lt
      go_wp2_with fail
      refine (dparts HDZ.out HMB.out HM.out HN.out LZ.out (by omega)).mono ?_
      rintro e w207 ⟨⟨pp, cp, rfl, hu⟩, hb⟩
      have HBw207 := Lib.hid hb
      have HUp_7 := Lib.hid hu
      clear hb hu
      have HNl_7 := Lib.hid (HNl_6.out.below HBw207.out)
      have HVa_7 := Lib.hid (HVa_6.out.below HBw207.out HVa_6.out.lt)
      have HNa_7 := Lib.hid (HNa_6.out.below HBw207.out)
      have HVb_7 := Lib.hid (HVb_6.out.below HBw207.out HVb_6.out.lt)
      have HVx_7 := Lib.hid (HVx_6.out.below HBw207.out HVx_6.out.lt)
      have HNx_7 := Lib.hid (HNx_6.out.below HBw207.out)
      have HVy_7 := Lib.hid (HVy_6.out.below HBw207.out HVy_6.out.lt)
      have HNk_7 := Lib.hid (HUk_6.out.below HBw207.out)
      have HBW_7 := Lib.hid (HBW_6.out.trans (HBw207.out.mono HBW_6.out.size))
      clear HNl_6 HVa_6 HNa_6 HVb_6 HVx_6 HNx_6 HVy_6 HUk_6 HBW_6
      clear HBw207
      clear qy0 qy1 ty
      go_wp2_with fail
      go_big_unhide
      have HTB := Lib.hid (HT.out.below HBW_7.out)
      (try dsimp only [List.append])
      have BC := Lib.hid (show Below w207.heap.size w207 w207.drew from (Below.refl _ _).drew)
      refine wp_region_noPanic ?_
      refine wp_region_held_drew (S := fun w' => w'.cell? ⟨gx, 0, none⟩ = some (.bool bv4) ∧ w'.cell? ⟨gx, 1, none⟩ = some (.slice sv4 lv4 cv4) ∧ w'.cell? ⟨gy, 0, none⟩ = some (.bool mz) ∧ w'.cell? ⟨gy, 1, none⟩ = some (.string DZ)) (by kernel_rfl) (by (try dsimp only); exact ⟨(HVx_7.out.below BC.out HVx_7.out.lt).c0, (HVx_7.out.below BC.out HVx_7.out.lt).c1, (HVy_7.out.below BC.out HVy_7.out.lt).c0, (HVy_7.out.below BC.out HVy_7.out.lt).c1⟩) (fun hHeld => ?_)
      refine' take_any 0 94 (v := _) ?hie0 ?hde0 (by kernel_rfl) (by kernel_rfl) (by kernel_rfl) (fun _ _ _ h => h) ?hye0 hHeld ?hre0
      case hie0 => (simp only [List.getElem?_toArray, List.getElem?_cons_zero]; rfl)
      case hde0 => rfl
      case hye0 =>
        refine' Or.inl ⟨?hwe0, ?hxe0⟩
        case hwe0 => rfl
        case hxe0 => (intro w hSw; (try dsimp only at hSw); go_simp; (try with_reducible rfl))
      (try simp only [Act.put, List.setIfInBounds_toArray, List.set_cons_zero, List.set_cons_succ])
      refine' take_any 1 95 (v := _) ?hie1 ?hde1 (by kernel_rfl) (by kernel_rfl) (by kernel_rfl) (fun _ _ _ h => h) ?hye1 hHeld ?hre1
      case hie1 => (simp only [List.getElem?_toArray, List.getElem?_cons_succ, List.getElem?_cons_zero]; rfl)
      case hde1 => rfl
      case hye1 =>
        refine' Or.inl ⟨?hwe1, ?hxe1⟩
        case hwe1 => rfl
        case hxe1 => (intro w hSw; (try dsimp only at hSw); go_simp; (try with_reducible rfl))
      (try simp only [Act.put, List.setIfInBounds_toArray, List.set_cons_zero, List.set_cons_succ])
      refine' take_any 2 96 (v := _) ?hie2 ?hde2 (by kernel_rfl) (by kernel_rfl) (by kernel_rfl) (fun _ _ _ h => h) ?hye2 hHeld ?hre2
      case hie2 => (simp only [List.getElem?_toArray, List.getElem?_cons_succ, List.getElem?_cons_zero]; rfl)
      case hde2 => rfl
      case hye2 =>
        refine' Or.inl ⟨?hwe2, ?hxe2⟩
        case hwe2 => rfl
        case hxe2 => (intro w hSw; (try dsimp only at hSw); go_simp; (try with_reducible rfl))
      (try simp only [Act.put, List.setIfInBounds_toArray, List.set_cons_zero, List.set_cons_succ])
      refine' take_any 3 97 (v := _) ?hie3 ?hde3 (by kernel_rfl) (by kernel_rfl) (by kernel_rfl) (fun _ _ _ h => h) ?hye3 hHeld ?hre3
      case hie3 => (simp only [List.getElem?_toArray, List.getElem?_cons_succ, List.getElem?_cons_zero]; rfl)
      case hde3 => rfl
      case hye3 =>
        refine' Or.inl ⟨?hwe3, ?hxe3⟩
        case hwe3 => rfl
        case hxe3 => (intro w hSw; (try dsimp only at hSw); go_simp; (try with_reducible rfl))
      (try simp only [Act.put, List.setIfInBounds_toArray, List.set_cons_zero, List.set_cons_succ])
      refine' take_any 4 98 (v := _) ?hie4 ?hde4 (by kernel_rfl) (by kernel_rfl) (by kernel_rfl) (fun _ _ _ h => h) ?hye4 hHeld ?hre4
      case hie4 => (simp only [List.getElem?_toArray, List.getElem?_cons_succ, List.getElem?_cons_zero]; rfl)
      case hde4 => rfl
      case hye4 =>
        refine' Or.inl ⟨?hwe4, ?hxe4⟩
        case hwe4 => rfl
        case hxe4 => (intro w hSw; (try dsimp only at hSw); go_simp; (try with_reducible rfl))
      (try simp only [Act.put, List.setIfInBounds_toArray, List.set_cons_zero, List.set_cons_succ])
      refine' take_any 6 100 (v := _) ?hie6 ?hde6 (by kernel_rfl) (by kernel_rfl) (by kernel_rfl) (fun _ _ _ h => h) ?hye6 hHeld ?hre6
      case hie6 => (simp only [List.getElem?_toArray, List.getElem?_cons_succ, List.getElem?_cons_zero]; rfl)
      case hde6 => rfl
      case hye6 =>
        refine' Or.inl ⟨?hwe6, ?hxe6⟩
        case hwe6 => rfl
        case hxe6 => (intro w hSw; (try dsimp only at hSw); go_simp; (try with_reducible rfl))
      (try simp only [Act.put, List.setIfInBounds_toArray, List.set_cons_zero, List.set_cons_succ])
      refine' take_call 5 ?hie5 (by kernel_rfl) ?hre5
      case hie5 => (simp only [List.getElem?_toArray, List.getElem?_cons_succ, List.getElem?_cons_zero]; rfl)
      intro K hK
      go_simp
      go_at_call 11
      refine (ntextS (K := 30) SZ HSZ.out (HNx_7.out.below BC.out) (by omega) (HTB.out.below BC.out)).mono ?_
      rintro e w101 ⟨rfl, hb⟩
      have HB1 := Lib.hid hb
      replace BC := Lib.hid (BC.out.trans (hb.mono BC.out.size))
      clear hb
      go_wp2_with fail
      clear hHeld
      refine hK.out _ _ (by (try dsimp only); exact ⟨(HVx_7.out.below BC.out HVx_7.out.lt).c0, (HVx_7.out.below BC.out HVx_7.out.lt).c1, (HVy_7.out.below BC.out HVy_7.out.lt).c0, (HVy_7.out.below BC.out HVy_7.out.lt).c1⟩) (fun hHeld => ?_)
      clear hK K
      (try simp only [Act.put, List.setIfInBounds_toArray, List.set_cons_zero, List.set_cons_succ])
      refine' take_call 7 ?hie7 (by kernel_rfl) ?hre7
      case hie7 => (simp only [List.getElem?_toArray, List.getElem?_cons_succ, List.getElem?_cons_zero]; rfl)
      intro K hK
      go_simp
      have _hb := HB1.out
      clear _hb
      go_at_call 12
      refine (dtext (K := 30) HDZ.out HSZ.out LZ.out (by omega) _).mono ?_
      rintro e w102 ⟨rfl, hb⟩
      have HB2 := Lib.hid hb
      replace BC := Lib.hid (BC.out.trans (hb.mono BC.out.size))
      clear hb
      go_wp2_with fail
      clear hHeld
      refine hK.out _ _ (by (try dsimp only); exact ⟨(HVx_7.out.below BC.out HVx_7.out.lt).c0, (HVx_7.out.below BC.out HVx_7.out.lt).c1, (HVy_7.out.below BC.out HVy_7.out.lt).c0, (HVy_7.out.below BC.out HVy_7.out.lt).c1⟩) (fun hHeld => ?_)
      clear hK K
      (try simp only [Act.put, List.setIfInBounds_toArray, List.set_cons_zero, List.set_cons_succ])
      refine' take_any 8 102 (v := _) ?hie8 ?hde8 (by kernel_rfl) (by kernel_rfl) (by kernel_rfl) (fun _ _ _ h => h) ?hye8 hHeld ?hre8
      case hie8 => (simp only [List.getElem?_toArray, List.getElem?_cons_succ, List.getElem?_cons_zero]; rfl)
      case hde8 => rfl
      case hye8 =>
        refine' Or.inl ⟨?hwe8, ?hxe8⟩
        case hwe8 => rfl
        case hxe8 => (intro w hSw; (try dsimp only at hSw); go_simp; (try with_reducible rfl))
      (try simp only [Act.put, List.setIfInBounds_toArray, List.set_cons_zero, List.set_cons_succ])
      refine' take_any 9 103 (v := _) ?hie9 ?hde9 (by kernel_rfl) (by kernel_rfl) (by kernel_rfl) (fun _ _ _ h => h) ?hye9 hHeld ?hre9
      case hie9 => (simp only [List.getElem?_toArray, List.getElem?_cons_succ, List.getElem?_cons_zero]; rfl)
      case hde9 => rfl
      case hye9 =>
        refine' Or.inl ⟨?hwe9, ?hxe9⟩
        case hwe9 => rfl
        case hxe9 => (intro w hSw; (try dsimp only at hSw); go_simp; (try with_reducible rfl))
      (try simp only [Act.put, List.setIfInBounds_toArray, List.set_cons_zero, List.set_cons_succ])
      refine' take_any 10 104 (v := _) ?hie10 ?hde10 (by kernel_rfl) (by kernel_rfl) (by kernel_rfl) (fun _ _ _ h => h) ?hye10 hHeld ?hre10
      case hie10 => (simp only [List.getElem?_toArray, List.getElem?_cons_succ, List.getElem?_cons_zero]; rfl)
      case hde10 => rfl
      case hye10 =>
        refine' Or.inl ⟨?hwe10, ?hxe10⟩
        case hwe10 => rfl
        case hxe10 => (intro w hSw; (try dsimp only at hSw); go_simp; (try with_reducible rfl))
      (try simp only [Act.put, List.setIfInBounds_toArray, List.set_cons_zero, List.set_cons_succ])
      refine' take_any 11 105 (v := _) ?hie11 ?hde11 (by kernel_rfl) (by kernel_rfl) (by kernel_rfl) (fun _ _ _ h => h) ?hye11 hHeld ?hre11
      case hie11 => (simp only [List.getElem?_toArray, List.getElem?_cons_succ, List.getElem?_cons_zero]; rfl)
      case hde11 => rfl
      case hye11 =>
        refine' Or.inl ⟨?hwe11, ?hxe11⟩
        case hwe11 => rfl
        case hxe11 => (intro w hSw; (try dsimp only at hSw); go_simp; (try with_reducible rfl))
      (try simp only [Act.put, List.setIfInBounds_toArray, List.set_cons_zero, List.set_cons_succ])
      refine' take_any 12 106 (v := _) ?hie12 ?hde12 (by kernel_rfl) (by kernel_rfl) (by kernel_rfl) (fun _ _ _ h => h) ?hye12 hHeld ?hre12
      case hie12 => (simp only [List.getElem?_toArray, List.getElem?_cons_succ, List.getElem?_cons_zero]; rfl)
      case hde12 => rfl
      case hye12 =>
        refine' Or.inl ⟨?hwe12, ?hxe12⟩
        case hwe12 => rfl
        case hxe12 => (intro w hSw; (try dsimp only at hSw); go_simp; (try with_reducible rfl))
      (try simp only [Act.put, List.setIfInBounds_toArray, List.set_cons_zero, List.set_cons_succ])
      refine' take_any 13 107 (v := _) ?hie13 ?hde13 (by kernel_rfl) (by kernel_rfl) (by kernel_rfl) (fun _ _ _ h => h) ?hye13 hHeld ?hre13
      case hie13 => (simp only [List.getElem?_toArray, List.getElem?_cons_succ, List.getElem?_cons_zero]; rfl)
      case hde13 => rfl
      case hye13 =>
        refine' Or.inl ⟨?hwe13, ?hxe13⟩
        case hwe13 => rfl
        case hxe13 => (intro w hSw; (try dsimp only at hSw); go_simp; (try with_reducible rfl))
      (try simp only [Act.put, List.setIfInBounds_toArray, List.set_cons_zero, List.set_cons_succ])
      refine' take_any 14 108 (v := _) ?hie14 ?hde14 (by kernel_rfl) (by kernel_rfl) (by kernel_rfl) (fun _ _ _ h => h) ?hye14 hHeld ?hre14
      case hie14 => (simp only [List.getElem?_toArray, List.getElem?_cons_succ, List.getElem?_cons_zero]; rfl)
      case hde14 => rfl
      case hye14 =>
        refine' Or.inl ⟨?hwe14, ?hxe14⟩
        case hwe14 => rfl
        case hxe14 => (intro w hSw; (try dsimp only at hSw); go_simp; (try with_reducible rfl))
      (try simp only [Act.put, List.setIfInBounds_toArray, List.set_cons_zero, List.set_cons_succ])
      refine' take_any 15 109 (v := _) ?hie15 ?hde15 (by kernel_rfl) (by kernel_rfl) (by kernel_rfl) (fun _ _ _ h => h) ?hye15 hHeld ?hre15
      case hie15 => (simp only [List.getElem?_toArray, List.getElem?_cons_succ, List.getElem?_cons_zero]; rfl)
      case hde15 => rfl
      case hye15 =>
        refine' Or.inl ⟨?hwe15, ?hxe15⟩
        case hwe15 => rfl
        case hxe15 => (intro w hSw; (try dsimp only at hSw); go_simp; (try with_reducible rfl))
      (try simp only [Act.put, List.setIfInBounds_toArray, List.set_cons_zero, List.set_cons_succ])
      refine' take_any 16 110 (v := _) ?hie16 ?hde16 (by kernel_rfl) (by kernel_rfl) (by kernel_rfl) (fun _ _ _ h => h) ?hye16 hHeld ?hre16
      case hie16 => (simp only [List.getElem?_toArray, List.getElem?_cons_succ, List.getElem?_cons_zero]; rfl)
      case hde16 => rfl
      case hye16 =>
        refine' Or.inl ⟨?hwe16, ?hxe16⟩
        case hwe16 => rfl
        case hxe16 => (intro w hSw; (try dsimp only at hSw); go_simp; (try with_reducible rfl))
      (try simp only [Act.put, List.setIfInBounds_toArray, List.set_cons_zero, List.set_cons_succ])
      refine' take_any 17 111 (v := _) ?hie17 ?hde17 (by kernel_rfl) (by kernel_rfl) (by kernel_rfl) (fun _ _ _ h => h) ?hye17 hHeld ?hre17
      case hie17 => (simp only [List.getElem?_toArray, List.getElem?_cons_succ, List.getElem?_cons_zero]; rfl)
      case hde17 => rfl
      case hye17 =>
        refine' Or.inl ⟨?hwe17, ?hxe17⟩
        case hwe17 => rfl
        case hxe17 => (intro w hSw; (try dsimp only at hSw); go_simp; (try with_reducible rfl))
      (try simp only [Act.put, List.setIfInBounds_toArray, List.set_cons_zero, List.set_cons_succ])
      refine' take_any 18 112 (v := _) ?hie18 ?hde18 (by kernel_rfl) (by kernel_rfl) (by kernel_rfl) (fun _ _ _ h => h) ?hye18 hHeld ?hre18
      case hie18 => (simp only [List.getElem?_toArray, List.getElem?_cons_succ, List.getElem?_cons_zero]; rfl)
      case hde18 => rfl
      case hye18 =>
        refine' Or.inl ⟨?hwe18, ?hxe18⟩
        case hwe18 => rfl
        case hxe18 => (intro w hSw; (try dsimp only at hSw); go_simp; (try with_reducible rfl))
      (try simp only [Act.put, List.setIfInBounds_toArray, List.set_cons_zero, List.set_cons_succ])
      refine' take_any 19 113 (v := _) ?hie19 ?hde19 (by kernel_rfl) (by kernel_rfl) (by kernel_rfl) (fun _ _ _ h => h) ?hye19 hHeld ?hre19
      case hie19 => (simp only [List.getElem?_toArray, List.getElem?_cons_succ, List.getElem?_cons_zero]; rfl)
      case hde19 => rfl
      case hye19 =>
        refine' Or.inl ⟨?hwe19, ?hxe19⟩
        case hwe19 => rfl
        case hxe19 => (intro w hSw; (try dsimp only at hSw); go_simp; (try with_reducible rfl))
      (try simp only [Act.put, List.setIfInBounds_toArray, List.set_cons_zero, List.set_cons_succ])
      refine' take_any 20 114 (v := _) ?hie20 ?hde20 (by kernel_rfl) (by kernel_rfl) (by kernel_rfl) (fun _ _ _ h => h) ?hye20 hHeld ?hre20
      case hie20 => (simp only [List.getElem?_toArray, List.getElem?_cons_succ, List.getElem?_cons_zero]; rfl)
      case hde20 => rfl
      case hye20 =>
        refine' Or.inl ⟨?hwe20, ?hxe20⟩
        case hwe20 => rfl
        case hxe20 => (intro w hSw; (try dsimp only at hSw); go_simp; (try with_reducible rfl))
      (try simp only [Act.put, List.setIfInBounds_toArray, List.set_cons_zero, List.set_cons_succ])
      refine' take_any 21 115 (v := _) ?hie21 ?hde21 (by kernel_rfl) (by kernel_rfl) (by kernel_rfl) (fun _ _ _ h => h) ?hye21 hHeld ?hre21
      case hie21 => (simp only [List.getElem?_toArray, List.getElem?_cons_succ, List.getElem?_cons_zero]; rfl)
      case hde21 => rfl
      case hye21 =>
        refine' Or.inl ⟨?hwe21, ?hxe21⟩
        case hwe21 => rfl
        case hxe21 => (intro w hSw; (try dsimp only at hSw); go_simp; (try with_reducible rfl))
      (try simp only [Act.put, List.setIfInBounds_toArray, List.set_cons_zero, List.set_cons_succ])
      refine wpAnyH_done (by kernel_rfl) ?_ _
      refine NoPanic.normal ?_
      have BD := Lib.hid BC.out
      have HNl_8 := Lib.hid (HNl_7.out.below BD.out)
      have HVa_8 := Lib.hid (HVa_7.out.below BD.out HVa_7.out.lt)
      have HNa_8 := Lib.hid (HNa_7.out.below BD.out)
      have HVb_8 := Lib.hid (HVb_7.out.below BD.out HVb_7.out.lt)
      have HVx_8 := Lib.hid (HVx_7.out.below BD.out HVx_7.out.lt)
      have HNx_8 := Lib.hid (HNx_7.out.below BD.out)
      have HVy_8 := Lib.hid (HVy_7.out.below BD.out HVy_7.out.lt)
      have HNk_8 := Lib.hid (HNk_7.out.below BD.out)
      have HNp_8 := Lib.hid (HUp_7.out.below BD.out)
      have HBW_8 := Lib.hid (HBW_7.out.trans (BD.out.mono HBW_7.out.size))
      clear HNl_7 HVa_7 HNa_7 HVb_7 HVx_7 HNx_7 HVy_7 HNk_7 HUp_7 HBW_7
      clear BD BC HTB HB1 HB2
      have hNb : N ≤ 30 := by rw [← HN.out, ← HM.out]; exact LZ.out
      go_wp2
      go_loopw [20] (fun i wr => ∃ j : Nat, j ≤ N ∧ i = .int .i64 j ∧ Hid (Below w102.heap.size w102 wr)) (fun i _ => N - (intOf i).toNat)
      case atStart => exact ⟨0, by omega, rfl, Lib.hid (Below.refl _ _)⟩
      case round =>
        obtain ⟨j, hj, rfl, HBr⟩ := hrel
        have j0 : (0 : Int) ≤ j := Int.natCast_nonneg _
        by_cases hgo : j < N
        · have g1 : (j : Int) < N := by omega
          obtain ⟨b1, o1, rfl, hb1, hc1⟩ := (HNk_8.out.below HBr.out).at (show j < _ by rw [HN.out]; exact hgo)
          obtain ⟨b2, o2, rfl, hb2, hc2⟩ := (HNp_8.out.below HBr.out).at (show j < _ by rw [HN.out]; exact hgo)
          obtain ⟨d, hd⟩ : ∃ d, d = M.getD j 0 := ⟨_, rfl⟩
          rw [← hd] at hc1 hc2
          have c1 : wr.cell? ⟨b1, o1 + j, none⟩ = some (.int .u32 d) := hc1
          have c2 : wr.cell? ⟨b2, o2 + j, none⟩ = some (.int .u32 d) := hc2
          clear hd hc1 hc2
          go_wp2_with fail
          go_quiet (fail)
          go_wp2
          go_roundw
          case rel => exact ⟨j + 1, by omega, by go_num, Lib.hid (below_drewN HBr.out _)⟩
          case measure => simp [intOf]; omega
        · have g1 : ¬ (j : Int) < N := by omega
          clear hgo hj
          have HNl_9 := Lib.hid (HNl_8.out.below HBr.out)
          have HVa_9 := Lib.hid (HVa_8.out.below HBr.out HVa_8.out.lt)
          have HNa_9 := Lib.hid (HNa_8.out.below HBr.out)
          have HVb_9 := Lib.hid (HVb_8.out.below HBr.out HVb_8.out.lt)
          have HVx_9 := Lib.hid (HVx_8.out.below HBr.out HVx_8.out.lt)
          have HNx_9 := Lib.hid (HNx_8.out.below HBr.out)
          have HVy_9 := Lib.hid (HVy_8.out.below HBr.out HVy_8.out.lt)
          have HNk_9 := Lib.hid (HNk_8.out.below HBr.out)
          have HNp_9 := Lib.hid (HNp_8.out.below HBr.out)
          have HBW_9 := Lib.hid (HBW_8.out.trans (HBr.out.mono HBW_8.out.size))
          clear HNl_8 HVa_8 HNa_8 HVb_8 HVx_8 HNx_8 HVy_8 HNk_8 HNp_8 HBW_8
          clear HBr
          go_wp2_with fail
          refine (nof n HN0.out HN1.out _).mono ?_
          rintro e w210 ⟨⟨bn10, sn10, ln10, cn10, rfl, hn⟩, hb⟩
          have HBw210 := Lib.hid hb
          have HNo_10 := Lib.hid hn
          clear hn
          clear hb
          have HNl_10 := Lib.hid (HNl_9.out.below HBw210.out)
          have HVa_10 := Lib.hid (HVa_9.out.below HBw210.out HVa_9.out.lt)
          have HNa_10 := Lib.hid (HNa_9.out.below HBw210.out)
          have HVb_10 := Lib.hid (HVb_9.out.below HBw210.out HVb_9.out.lt)
          have HVx_10 := Lib.hid (HVx_9.out.below HBw210.out HVx_9.out.lt)
          have HNx_10 := Lib.hid (HNx_9.out.below HBw210.out)
          have HVy_10 := Lib.hid (HVy_9.out.below HBw210.out HVy_9.out.lt)
          have HNk_10 := Lib.hid (HNk_9.out.below HBw210.out)
          have HNp_10 := Lib.hid (HNp_9.out.below HBw210.out)
          have HBW_10 := Lib.hid (HBW_9.out.trans (HBw210.out.mono HBW_9.out.size))
          clear HNl_9 HVa_9 HNa_9 HVb_9 HVx_9 HNx_9 HVy_9 HNk_9 HNp_9 HBW_9
          clear HBw210
          go_wp2_with fail
          refine (nsmallG (K := 3) HSM.out HNo_10.out (by omega)).mono ?_
          rintro e w211 ⟨rfl, hb⟩
          have HBw211 := Lib.hid hb
          clear hb
          have HNl_11 := Lib.hid (HNl_10.out.below HBw211.out)
          have HVa_11 := Lib.hid (HVa_10.out.below HBw211.out HVa_10.out.lt)
          have HNa_11 := Lib.hid (HNa_10.out.below HBw211.out)
          have HVb_11 := Lib.hid (HVb_10.out.below HBw211.out HVb_10.out.lt)
          have HVx_11 := Lib.hid (HVx_10.out.below HBw211.out HVx_10.out.lt)
          have HNx_11 := Lib.hid (HNx_10.out.below HBw211.out)
          have HVy_11 := Lib.hid (HVy_10.out.below HBw211.out HVy_10.out.lt)
          have HNk_11 := Lib.hid (HNk_10.out.below HBw211.out)
          have HNp_11 := Lib.hid (HNp_10.out.below HBw211.out)
          have HNo_11 := Lib.hid (HNo_10.out.below HBw211.out)
          have HBW_11 := Lib.hid (HBW_10.out.trans (HBw211.out.mono HBW_10.out.size))
          clear HNl_10 HVa_10 HNa_10 HVb_10 HVx_10 HNx_10 HVy_10 HNk_10 HNp_10 HNo_10 HBW_10
          clear HBw211
          go_wp2_with fail
          refine (nof n HN0.out HN1.out _).mono ?_
          rintro e w212 ⟨⟨bn12, sn12, ln12, cn12, rfl, hn⟩, hb⟩
          have HBw212 := Lib.hid hb
          have HNu_12 := Lib.hid hn
          clear hn
          clear hb
          have HNl_12 := Lib.hid (HNl_11.out.below HBw212.out)
          have HVa_12 := Lib.hid (HVa_11.out.below HBw212.out HVa_11.out.lt)
          have HNa_12 := Lib.hid (HNa_11.out.below HBw212.out)
          have HVb_12 := Lib.hid (HVb_11.out.below HBw212.out HVb_11.out.lt)
          have HVx_12 := Lib.hid (HVx_11.out.below HBw212.out HVx_11.out.lt)
          have HNx_12 := Lib.hid (HNx_11.out.below HBw212.out)
          have HVy_12 := Lib.hid (HVy_11.out.below HBw212.out HVy_11.out.lt)
          have HNk_12 := Lib.hid (HNk_11.out.below HBw212.out)
          have HNp_12 := Lib.hid (HNp_11.out.below HBw212.out)
          have HNo_12 := Lib.hid (HNo_11.out.below HBw212.out)
          have HBW_12 := Lib.hid (HBW_11.out.trans (HBw212.out.mono HBW_11.out.size))
          clear HNl_11 HVa_11 HNa_11 HVb_11 HVx_11 HNx_11 HVy_11 HNk_11 HNp_11 HNo_11 HBW_11
          clear HBw212
          go_wp2_with fail
          refine (ntextS (K := 3) SN HSN.out HNu_12.out (by omega) (HT.out.below HBW_12.out)).mono ?_
          rintro e w213 ⟨rfl, hb⟩
          have HBw213 := Lib.hid hb
          clear hb
          have HNl_13 := Lib.hid (HNl_12.out.below HBw213.out)
          have HVa_13 := Lib.hid (HVa_12.out.below HBw213.out HVa_12.out.lt)
          have HNa_13 := Lib.hid (HNa_12.out.below HBw213.out)
          have HVb_13 := Lib.hid (HVb_12.out.below HBw213.out HVb_12.out.lt)
          have HVx_13 := Lib.hid (HVx_12.out.below HBw213.out HVx_12.out.lt)
          have HNx_13 := Lib.hid (HNx_12.out.below HBw213.out)
          have HVy_13 := Lib.hid (HVy_12.out.below HBw213.out HVy_12.out.lt)
          have HNk_13 := Lib.hid (HNk_12.out.below HBw213.out)
          have HNp_13 := Lib.hid (HNp_12.out.below HBw213.out)
          have HNo_13 := Lib.hid (HNo_12.out.below HBw213.out)
          have HNu_13 := Lib.hid (HNu_12.out.below HBw213.out)
          have HBW_13 := Lib.hid (HBW_12.out.trans (HBw213.out.mono HBW_12.out.size))
          clear HNl_12 HVa_12 HNa_12 HVb_12 HVx_12 HNx_12 HVy_12 HNk_12 HNp_12 HNo_12 HNu_12 HBW_12
          clear HBw213
          go_wp2_with fail
          refine (dreadT (K := 3) n HSN.out HDN.out LN.out (by omega) _).mono ?_
          rintro e w214 ⟨rfl, hb⟩
          obtain ⟨W214, hW214⟩ : ∃ W, W = w214.alloc (.cells #[.bool mn, .string DN] 30) := ⟨_, rfl⟩
          obtain ⟨gd, hgd⟩ : ∃ g, g = w214.heap.size := ⟨_, rfl⟩
          have HBW214 := Lib.hid (show Below w213.heap.size w213 W214 by rw [hW214]; exact hb.alloc hb.size _)
          have HVn := Lib.hid (show DocAt W214 gd mn DN by rw [hW214, hgd]; exact DocAt.made _ _ _)
          have HW214 := Lib.hid hW214
          have HGd := Lib.hid hgd
          clear hb hW214 hgd
          have HNl_14 := Lib.hid (HNl_13.out.below HBW214.out)
          have HVa_14 := Lib.hid (HVa_13.out.below HBW214.out HVa_13.out.lt)
          have HNa_14 := Lib.hid (HNa_13.out.below HBW214.out)
          have HVb_14 := Lib.hid (HVb_13.out.below HBW214.out HVb_13.out.lt)
          have HVx_14 := Lib.hid (HVx_13.out.below HBW214.out HVx_13.out.lt)
          have HNx_14 := Lib.hid (HNx_13.out.below HBW214.out)
          have HVy_14 := Lib.hid (HVy_13.out.below HBW214.out HVy_13.out.lt)
          have HNk_14 := Lib.hid (HNk_13.out.below HBW214.out)
          have HNp_14 := Lib.hid (HNp_13.out.below HBW214.out)
          have HNo_14 := Lib.hid (HNo_13.out.below HBW214.out)
          have HNu_14 := Lib.hid (HNu_13.out.below HBW214.out)
          have HBW_14 := Lib.hid (HBW_13.out.trans (HBW214.out.mono HBW_13.out.size))
          clear HNl_13 HVa_13 HNa_13 HVb_13 HVx_13 HNx_13 HVy_13 HNk_13 HNp_13 HNo_13 HNu_13 HBW_13
          have HVd_14 := HVn
          clear HVn HBW214
          go_wp2_with fail
          rw [← HGd.out, ← HW214.out]
          refine (dsmall HDN.out HSM.out LN.out (by omega) _).mono ?_
          rintro e w215 ⟨rfl, hb⟩
          have HBw215 := Lib.hid hb
          clear hb
          have HNl_15 := Lib.hid (HNl_14.out.below HBw215.out)
          have HVa_15 := Lib.hid (HVa_14.out.below HBw215.out HVa_14.out.lt)
          have HNa_15 := Lib.hid (HNa_14.out.below HBw215.out)
          have HVb_15 := Lib.hid (HVb_14.out.below HBw215.out HVb_14.out.lt)
          have HVx_15 := Lib.hid (HVx_14.out.below HBw215.out HVx_14.out.lt)
          have HNx_15 := Lib.hid (HNx_14.out.below HBw215.out)
          have HVy_15 := Lib.hid (HVy_14.out.below HBw215.out HVy_14.out.lt)
          have HNk_15 := Lib.hid (HNk_14.out.below HBw215.out)
          have HNp_15 := Lib.hid (HNp_14.out.below HBw215.out)
          have HNo_15 := Lib.hid (HNo_14.out.below HBw215.out)
          have HNu_15 := Lib.hid (HNu_14.out.below HBw215.out)
          have HVd_15 := Lib.hid (HVd_14.out.below HBw215.out HVd_14.out.lt)
          have HBW_15 := Lib.hid (HBW_14.out.trans (HBw215.out.mono HBW_14.out.size))
          clear HNl_14 HVa_14 HNa_14 HVb_14 HVx_14 HNx_14 HVy_14 HNk_14 HNp_14 HNo_14 HNu_14 HVd_14 HBW_14
          clear HBw215
          by_cases hlo : n < -2305843009213693952
          · obtain ⟨rfl, rfl⟩ := small_lo HSM.out hlo
            have d3 : decide (n ≥ -2305843009213693952) = false := decide_eq_false (by omega)
            clear hlo
            go_wp2
            go_ret
            exact ⟨rfl, HBW_15.out⟩
          have d3 : decide (n ≥ -2305843009213693952) = true := decide_eq_true (by omega)
          by_cases hhi : 2305843009213693951 < n
          · obtain ⟨rfl, rfl⟩ := small_hi HSM.out hhi
            have d4 : decide (n ≤ 2305843009213693951) = false := decide_eq_false (by omega)
            clear hlo hhi
            go_wp2
            go_ret
            exact ⟨rfl, HBW_15.out⟩
          have d4 : decide (n ≤ 2305843009213693951) = true := decide_eq_true (by omega)
          have hin := small_in HSM.out (by omega) (by omega)
          have hi1 := hin.1
          have hi2 := hin.2
          clear hlo hhi hin
          subst hi2
          subst hi1
          go_wp2
          go_ret
          exact ⟨rfl, HBW_15.out⟩
end Go.Proofs.YtibhfcnjmilepaaDoor

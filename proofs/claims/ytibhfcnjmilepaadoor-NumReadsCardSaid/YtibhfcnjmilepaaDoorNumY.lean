import Derived.Test.YtibhfcnjmilepaaDoorNumX
import Derived.Laws.CopyOwn
namespace Go.Proofs.YtibhfcnjmilepaaDoor
open Go.RowKit

theorem bk_trim {w : World} {g : Nat} {l : List Nat} (hb : Bk w g l) (ho : okB l) : U32s w (.slice (some ⟨g, 0, none⟩) (trimB l).length (trimB l).length) (digB (valB l)) := by
  rw [trimB_dig _ l rfl ho]
  have ht := (trimB_take l).1
  rw [trimB_dig _ l rfl ho] at ht
  refine Bk.u32s (C := l.drop (digB (valB l)).length) ?_ rfl
  rw [show digB (valB l) ++ l.drop (digB (valB l)).length = l by
    conv => lhs; arg 1; rw [ht]
    exact List.take_append_drop _ _]
  exact hb
/-- trim of a row of the call's own -/
theorem trim_dig (g n cap : Nat) (l : List Nat) (hn : n = l.length) (hcap : n ≤ cap) (hl : n ≤ 1000000) (ho : okB l) (w : World) (hb : Bk w g l) :
    Calls Tryd.prog 40 #[.slice (some ⟨g, 0, none⟩) n cap] w fun e w' => (∃ v, e = .returned v ∧ U32s w' v (digB (valB l))) ∧ Below w.heap.size w w' ∧ ∃ q, w' = w.drewN q := by
  refine (ptrim_any g n cap l [] hn hcap hl w (by rw [List.append_nil]; exact hb)).mono ?_
  rintro e w' ⟨rfl, q, rfl⟩
  exact ⟨⟨_, rfl, bk_trim (hb.drewN q) ho⟩, ⟨rfl, rfl, rfl, Nat.le_refl _, fun _ _ => rfl⟩, q, rfl⟩
theorem splice_copy (a : List Nat) : splice ((List.replicate (a.length + 1) 0).map u32V) 0 (a.map u32V) = (a ++ [0]).map u32V := by
  unfold splice
  rw [List.take_zero, List.nil_append, Nat.zero_add, List.length_map, List.map_append, List.replicate_succ', List.map_append, List.drop_append_of_le_length (by simp), List.drop_of_length_le (by simp), List.nil_append]
theorem copy_pos {w : World} {v : Value} {l : List Nat} {sp : Option Addr} {m c : Nat} (h : U32s w v l) (hv : v = .slice sp m c) : 0 < (l.map u32V).length → ∃ ad, sp = some ad ∧ ∀ (j : Nat) u, (l.map u32V)[j]? = some u → w.cell? (ad.add j) = some u := by
  intro h0
  rcases h with ⟨rfl, _⟩ | ⟨b, off, cap, rfl, hb, hc⟩
  · simp at h0
  · cases hv
    refine ⟨_, rfl, ?_⟩
    intro j u hj
    rw [List.getElem?_map] at hj
    by_cases hjl : j < l.length
    · rw [List.getElem?_eq_getElem hjl] at hj
      cases hj
      have := hc j hjl
      rw [List.getD_eq_getElem?_getD, List.getElem?_eq_getElem hjl] at this
      rw [show (⟨b, off, none⟩ : Addr).add j = ⟨b, off + j, none⟩ by unfold Addr.add; split <;> simp_all]
      exact this
    · rw [List.getElem?_eq_none (by omega)] at hj; cases hj
theorem u32_one (l : List Nat) : ∀ u ∈ l.map u32V, u.oneCell' = true := by
  intro u hu
  obtain ⟨d, _, rfl⟩ := List.mem_map.1 hu
  rfl
theorem Tryd.sizeU32 : (Tryd.prog.info? 40).map (·.size) = some 1 := by
  obtain ⟨i0, hi, _, hz1, _⟩ := info_parts Tryd.infoU32
  rw [hi, Option.map_some, hz1]
/-- a row of places is the number, where nothing is carried out of it -/
theorem sum_fits0 {x y b P v c : Nat} (hb : 2 ≤ b) (hx : x < P) (hy : y < P) (h : v + P * b * c = x + y) : v = x + y := by
  rcases c with _ | c
  · rw [Nat.mul_zero] at h; omega
  · exfalso
    have h1 : P * b ≤ P * b * (c + 1) := Nat.le_mul_of_pos_right _ (by omega)
    have h2 : P * 2 ≤ P * b := Nat.mul_le_mul_left _ hb
    omega
theorem sum_fits {x y na c : Nat} {l' : List Nat} (hx : x < bigB ^ na) (hy : y < bigB ^ na) (h : valB l' + bigB ^ (na + 1) * c = x + y) : valB l' = x + y := by
  rw [Nat.pow_succ] at h
  exact sum_fits0 (by rw [bigB_eq]; omega) hx hy h
theorem copy_any (W : World) (g n : Nat) (v : Value) (l : List Nat) (hn : n = l.length) (hq : W.heap[g]? = some (.cells ((List.replicate (n + 1) 0).map u32V).toArray 40 (0, 0))) (hu : U32s W v l) :
    ∃ W2, (∀ ty, (Builtin.copy_ #[22, 22] ty #[.slice (some ⟨g, 0, none⟩) (n + 1) (n + 1), v]).run Tryd.prog W = .ok (.int .i64 n) W2) ∧ Bk W2 g (l ++ [0]) ∧ Keep g W W2 := by
  subst hn
  obtain ⟨sp, c, rfl⟩ := hu.val
  by_cases h0 : l.length = 0
  · refine ⟨W, fun ty => ?_, ⟨[], ?_⟩, Keep.refl _ _⟩
    · rw [run_copy_none (P := Tryd.prog) W _ _ ty 40 _ _ _ _ _ _ Tryd.underlying22 Tryd.sizeU32 (by show min _ _ = 0; omega), h0]; rfl
    · rw [hq, List.length_eq_zero_iff.1 h0]; rfl
  · obtain ⟨ad, rfl, hsrc⟩ := copy_pos hu rfl (by simp; omega)
    have hmin : (l.map u32V).length = Nat.min l.length (l.length + 1) := by rw [List.length_map]; show l.length = min _ _; omega
    refine ⟨W.setRow g ((l ++ [0]).map u32V).toArray, fun ty => ?_, ⟨[], ?_⟩, ⟨rfl, rfl, rfl, ?_, ?_⟩⟩
    · rw [run_copy_row (P := Tryd.prog) W _ _ ty 40 g 0 _ _ ad _ _ _ _ (l.map u32V) Tryd.underlying22 Tryd.sizeU32 hq hmin hsrc (by simp) (u32_one l), ← splice_copy, List.length_map]
      simp [splice, goInt]
    · rw [setRow_heap _ g _ _ 40 (0, 0) hq, List.append_nil]
    · simp [World.setRow]
    · exact fun k hk => setRow_other _ g k _ hk
/-- what a call on digits hands back: the digits of a number -/
def DigPost (n : Nat) (w : World) (e : Ending) (w' : World) : Prop := (∃ v, e = .returned v ∧ U32s w' v (digB n)) ∧ Below w.heap.size w w'

set_option maxRecDepth 100000 in
set_option maxHeartbeats 4000000 in
theorem psum_ge (x y : Nat) (hx : (digB x).length ≤ 10000) (_hy : (digB y).length ≤ 10000) (hlt : ¬ (digB x).length < (digB y).length) (va vb : Value) (w : World) (ha : U32s w va (digB x)) (hb : U32s w vb (digB y)) :
    Calls Tryd.prog 43 #[va, vb] w (DigPost (x + y) w) := by
  obtain ⟨pa, ca, rfl⟩ := ha.val
  obtain ⟨pb, cb, rfl⟩ := hb.val
  obtain ⟨na, hna⟩ : ∃ na, na = (digB x).length := ⟨_, rfl⟩
  obtain ⟨nb, hnb⟩ : ∃ nb, nb = (digB y).length := ⟨_, rfl⟩
  rw [← hna] at ha hx hlt ⊢
  rw [← hnb] at hb hlt ⊢
  have HA := Lib.hid ha
  have HB := Lib.hid hb
  have HNA := Lib.hid hna
  have HNB := Lib.hid hnb
  have MK := mk_any (na + 1) (by omega) w
  rw [show ((na + 1 : Nat) : Int) = (na : Int) + 1 by omega] at MK
  obtain ⟨W, hW⟩ : ∃ W, W = w.alloc (.cells ((List.replicate (na + 1) 0).map u32V).toArray 40) := ⟨_, rfl⟩
  rw [← hW] at MK
  have hBW : Below w.heap.size w W := by rw [hW]; exact (Below.refl _ _).alloc (Nat.le_refl _) _
  have hq : W.heap[w.heap.size]? = some (.cells ((List.replicate (na + 1) 0).map u32V).toArray 40 (0, 0)) := by rw [hW]; exact heap_alloc_new _ _
  obtain ⟨W2, hcopy, hbk2, hkp2⟩ := copy_any W w.heap.size na _ _ HNA.out hq (HA.out.below hBW)
  have hb1 := hBW.trans (hkp2.below (Nat.le_refl _))
  have HB1 := Lib.hid hb1
  have hcp := hcopy 3
  have hok : okB (digB x ++ [0]) := okB_snoc (digB_ok _) bigB_pos
  have AT := addTo_any w.heap.size 0 (na + 1) (na + 1) [] (digB x ++ [0]) [] (digB y) rfl (by rw [snoc_len, HNA.out]) (digB_ok _) hok (by rw [← HNB.out]; omega) (by omega) (.slice pb nb cb) W2 (by rw [List.nil_append, List.append_nil]; exact hbk2) ((Rd.of HB.out (Nat.le_refl _)).below hb1)
  have hv0 : valB (digB x ++ [0]) = x := by rw [valB_snoc, valB_digB]; omega
  rw [hv0, valB_digB] at AT
  have HAT := Lib.hid AT
  have hlt2 : ¬ (na : Int) < nb := by omega
  clear ha hb hna hnb hW hBW hq hcopy hbk2 hkp2 hok AT hv0 hb1 hlt
  go_enter Tryd.func43, Tryd.ntmps43
  go_wp2_with fail
  refine HAT.out.mono ?_
  rintro e w2 ⟨rfl, ⟨l', c, hl', hok', hv', hbk'⟩, hk2⟩
  rw [List.nil_append, List.append_nil] at hbk'
  have hx1 : x < bigB ^ na := digB_len.1 (by rw [← HNA.out]; exact Nat.le_refl _)
  have hy1 : y < bigB ^ na := digB_len.1 (by rw [← HNB.out]; omega)
  have hv := sum_fits hx1 hy1 hv'
  have TR := trim_dig w.heap.size (na + 1) (na + 1) l' hl'.symm (Nat.le_refl _) (by omega) hok' w2 hbk'
  rw [hv] at TR
  have HTR := Lib.hid TR
  have HB2 := Lib.hid (HB1.out.trans (hk2.below (Nat.le_refl _)))
  clear hbk' hx1 hy1 hv TR hk2 hl' hok' hv'
  go_wp2_with fail
  refine HTR.out.mono ?_
  rintro e w3 ⟨⟨v, rfl, hu⟩, hb3, _⟩
  have HU := Lib.hid hu
  have HB3 := Lib.hid (HB2.out.trans (hb3.mono (HB2.out.size)))
  clear hu hb3
  go_wp2
  go_ret
  exact ⟨⟨v, rfl, HU.out⟩, HB3.out⟩

set_option maxRecDepth 100000 in
set_option maxHeartbeats 4000000 in
theorem psum_lt (x y : Nat) (_hx : (digB x).length ≤ 10000) (hy : (digB y).length ≤ 10000) (hlt : (digB x).length < (digB y).length) (va vb : Value) (w : World) (ha : U32s w va (digB x)) (hb : U32s w vb (digB y)) :
    Calls Tryd.prog 43 #[va, vb] w (DigPost (x + y) w) := by
  obtain ⟨pa, ca, rfl⟩ := ha.val
  obtain ⟨pb, cb, rfl⟩ := hb.val
  obtain ⟨na, hna⟩ : ∃ na, na = (digB x).length := ⟨_, rfl⟩
  obtain ⟨nb, hnb⟩ : ∃ nb, nb = (digB y).length := ⟨_, rfl⟩
  rw [← hna] at ha hlt ⊢
  rw [← hnb] at hb hy hlt ⊢
  have HA := Lib.hid ha
  have HB := Lib.hid hb
  have HNA := Lib.hid hna
  have HNB := Lib.hid hnb
  have MK := mk_any (nb + 1) (by omega) w
  rw [show ((nb + 1 : Nat) : Int) = (nb : Int) + 1 by omega] at MK
  obtain ⟨W, hW⟩ : ∃ W, W = w.alloc (.cells ((List.replicate (nb + 1) 0).map u32V).toArray 40) := ⟨_, rfl⟩
  rw [← hW] at MK
  have hBW : Below w.heap.size w W := by rw [hW]; exact (Below.refl _ _).alloc (Nat.le_refl _) _
  have hq : W.heap[w.heap.size]? = some (.cells ((List.replicate (nb + 1) 0).map u32V).toArray 40 (0, 0)) := by rw [hW]; exact heap_alloc_new _ _
  obtain ⟨W2, hcopy, hbk2, hkp2⟩ := copy_any W w.heap.size nb _ _ HNB.out hq (HB.out.below hBW)
  have hb1 := hBW.trans (hkp2.below (Nat.le_refl _))
  have HB1 := Lib.hid hb1
  have hcp := hcopy 3
  have hok : okB (digB y ++ [0]) := okB_snoc (digB_ok _) bigB_pos
  have AT := addTo_any w.heap.size 0 (nb + 1) (nb + 1) [] (digB y ++ [0]) [] (digB x) rfl (by rw [snoc_len, HNB.out]) (digB_ok _) hok (by rw [← HNA.out]; omega) (by omega) (.slice pa na ca) W2 (by rw [List.nil_append, List.append_nil]; exact hbk2) ((Rd.of HA.out (Nat.le_refl _)).below hb1)
  have hv0 : valB (digB y ++ [0]) = y := by rw [valB_snoc, valB_digB]; omega
  rw [hv0, valB_digB] at AT
  have HAT := Lib.hid AT
  have hlt2 : (na : Int) < nb := by omega
  clear ha hb hna hnb hW hBW hq hcopy hbk2 hkp2 hok AT hv0 hb1 hlt
  go_enter Tryd.func43, Tryd.ntmps43
  go_wp2_with fail
  refine HAT.out.mono ?_
  rintro e w2 ⟨rfl, ⟨l', c, hl', hok', hv', hbk'⟩, hk2⟩
  rw [List.nil_append, List.append_nil] at hbk'
  have hx1 : y < bigB ^ nb := digB_len.1 (by rw [← HNB.out]; exact Nat.le_refl _)
  have hy1 : x < bigB ^ nb := digB_len.1 (by rw [← HNA.out]; omega)
  have hv := sum_fits hx1 hy1 hv'
  have TR := trim_dig w.heap.size (nb + 1) (nb + 1) l' hl'.symm (Nat.le_refl _) (by omega) hok' w2 hbk'
  rw [hv] at TR
  have HTR := Lib.hid TR
  have HB2 := Lib.hid (HB1.out.trans (hk2.below (Nat.le_refl _)))
  clear hbk' hx1 hy1 hv TR hk2 hl' hok' hv'
  go_wp2_with fail
  refine HTR.out.mono ?_
  rintro e w3 ⟨⟨v, rfl, hu⟩, hb3, _⟩
  have HU := Lib.hid hu
  have HB3 := Lib.hid (HB2.out.trans (hb3.mono (HB2.out.size)))
  clear hu hb3
  go_wp2
  go_ret
  exact ⟨⟨v, rfl, by rw [Nat.add_comm x y]; exact HU.out⟩, HB3.out⟩

theorem psum_any (x y : Nat) (hx : (digB x).length ≤ 10000) (hy : (digB y).length ≤ 10000) (va vb : Value) (w : World) (ha : U32s w va (digB x)) (hb : U32s w vb (digB y)) :
    Calls Tryd.prog 43 #[va, vb] w (DigPost (x + y) w) := by
  by_cases h : (digB x).length < (digB y).length
  · exact psum_lt x y hx hy h va vb w ha hb
  · exact psum_ge x y hx hy h va vb w ha hb
end Go.Proofs.YtibhfcnjmilepaaDoor

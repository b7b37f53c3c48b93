import Derived.Test.YtghgjefobfaodaaDoorDatJ
import Derived.Deep.RegionHeld3
import Derived.IntWalk
namespace Go.Proofs.YtghgjefobfaodaaDoor
open Go.RowKit

/-- the heads of two data agree -/
def SameWOK (n : Nat) : Prop := ∀ (x y : Dat) (sx sy : Value) (ar : Int) (w : World), 0 ≤ ar → ar + n ≤ 262000 → hgt x ≤ n → SliceOf w (· < w.heap.size) sx x.list → SliceOf w (· < w.heap.size) sy y.list →
    Calls Tryd.prog 32 #[.agg #[.int .i64 x.kind, .string x.text, sx], .agg #[.int .i64 y.kind, .string y.text, sy], .int .i64 ar] w fun e w' => e = .returned (.bool (sameD x y)) ∧ Below w.heap.size w w'

set_option maxRecDepth 100000 in
set_option maxHeartbeats 1000000 in
theorem sameW_differ (kx ky : Int) (tx ty : ByteArray) (pa pb : Option Addr) (m n ca cb : Nat) (ar : Int) (w : World) (h : ¬ (kx = ky ∧ (tx.toList == ty.toList) = true ∧ m = n)) :
    Calls Tryd.prog 32 #[.agg #[.int .i64 kx, .string tx, .slice pa m ca], .agg #[.int .i64 ky, .string ty, .slice pb n cb], .int .i64 ar] w fun e w' => e = .returned (.bool false) ∧ Below w.heap.size w w' := by
  by_cases hk : kx = ky
  · subst hk
    cases ht : tx.toList == ty.toList
    · have ht2 : (tx.toList != ty.toList) = true := by rw [bne, ht]; rfl
      clear h
      go_enter Tryd.func32, Tryd.ntmps32
      go_wp2
      go_ret
      exact ⟨rfl, ((Below.refl _ _).alloc (Nat.le_refl _) _).alloc (by simp) _⟩
    · have ht2 : (tx.toList != ty.toList) = false := by rw [bne, ht]; rfl
      have hmn : ¬ m = n := fun e => h ⟨rfl, ht, e⟩
      have hmn2 : decide (m = n) = false := by simpa using hmn
      have hmn3 : (m == n) = false := by simpa using hmn
      have hmn4 : ((m : Int) == (n : Int)) = false := by simp; omega
      have hmn5 : ((m : Int) != (n : Int)) = true := by simp; omega
      have hmn6 : (m != n) = true := by simpa using hmn
      clear h
      go_enter Tryd.func32, Tryd.ntmps32
      go_wp2
      go_ret
      exact ⟨rfl, ((Below.refl _ _).alloc (Nat.le_refl _) _).alloc (by simp) _⟩
  · have hk2 : (kx != ky) = true := by simpa using hk
    have hk3 : (kx == ky) = false := by simpa using hk
    clear h
    go_enter Tryd.func32, Tryd.ntmps32
    go_wp2
    go_ret
    exact ⟨rfl, ((Below.refl _ _).alloc (Nat.le_refl _) _).alloc (by simp) _⟩

set_option maxRecDepth 100000 in
set_option maxHeartbeats 1000000 in
theorem sameW_nil (k : Int) (tx ty : ByteArray) (pa pb : Option Addr) (ca cb : Nat) (ar : Int) (w : World) (h0 : 0 ≤ ar) (h1 : ar ≤ 262000) (ht : (tx.toList == ty.toList) = true) :
    Calls Tryd.prog 32 #[.agg #[.int .i64 k, .string tx, .slice pa 0 ca], .agg #[.int .i64 k, .string ty, .slice pb 0 cb], .int .i64 ar] w fun e w' => e = .returned (.bool true) ∧ Below w.heap.size w w' := by
  have ht2 : (tx.toList != ty.toList) = false := by rw [bne, ht]; rfl
  go_enter Tryd.func32, Tryd.ntmps32
  go_wp2
  refine wp_loop_rounds 1 ?_
  rw [rounds_succ]
  go_wp2
  go_ret
  exact ⟨rfl, ((Below.refl _ _).alloc (Nat.le_refl _) _).alloc (by simp) _⟩

set_option maxRecDepth 100000 in
set_option maxHeartbeats 4000000 in
theorem sameW_some (n : Nat) (ih : SameWOK n) (k : Int) (tx ty : ByteArray) (b off cap b' off' cap' m : Nat) (rs rs' : List Raw) (l l' : List Dat) (ar : Int) (w : World) (h0 : 0 ≤ ar) (h1 : ar + (n + 1) ≤ 262000) (ht : (tx.toList == ty.toList) = true) (hm : m = l.length) (hm' : m = l'.length) (hml : m ≤ maxLen) (hh : hgts l ≤ n + 1)
    (hb : b < w.heap.size) (h5 : Rows3 w b off rs) (h6 : RawsOf w (· < w.heap.size) rs l) (hb' : b' < w.heap.size) (h5' : Rows3 w b' off' rs') (h6' : RawsOf w (· < w.heap.size) rs' l') :
    Calls Tryd.prog 32 #[.agg #[.int .i64 k, .string tx, .slice (some ⟨b, off, none⟩) m cap], .agg #[.int .i64 k, .string ty, .slice (some ⟨b', off', none⟩) m cap'], .int .i64 ar] w fun e w' => e = .returned (.bool (samesD l l')) ∧ Below w.heap.size w w' := by
  have ht2 : (tx.toList != ty.toList) = false := by rw [bne, ht]; rfl
  unfold maxLen at hml
  have HM := Lib.hid hm
  have HM' := Lib.hid hm'
  have H5 := Lib.hid h5
  have H6 := Lib.hid h6
  have H5' := Lib.hid h5'
  have H6' := Lib.hid h6'
  have HI := Lib.hid ih
  clear hm hm' h5 h6 h5' h6' ih
  go_enter Tryd.func32, Tryd.ntmps32
  go_wp2
  go_loopw [37] (fun i wr => ∃ k : Nat, k ≤ m ∧ i = .int .i64 k ∧ Hid (Below w.heap.size w wr) ∧ w.heap.size + 1 < wr.heap.size ∧ wr.cell? ⟨w.heap.size + 1, 2, none⟩ = some (.slice (some ⟨b', off', none⟩) m cap') ∧ Hid (∀ j, j < k → sameD (l.getD j dat0) (l'.getD j dat0) = true)) (fun i _ => m - (intOf i).toNat)
  case atStart => exact ⟨0, Nat.zero_le _, rfl, Lib.hid (((Below.refl _ _).alloc (Nat.le_refl _) _).alloc (by simp) _), by simp, by simp [go_sem], Lib.hid fun j hj => by omega⟩
  case round =>
    obtain ⟨i, hk, rfl, HB, hsz, hd2, HA⟩ := hrel
    by_cases hlt : i < m
    · have hkl : i < l.length := by rw [← HM.out]; exact hlt
      have hkl' : i < l'.length := by rw [← HM'.out]; exact hlt
      obtain ⟨sv, c0, c1, c2, hs⟩ := slice_at H5.out H6.out hb HB.out i hkl
      obtain ⟨sv', d0, d1, d2, hs'⟩ := slice_at H5'.out H6'.out hb' HB.out i hkl'
      have hgk := hgts_get l i hkl
      have hno : sameD (l.getD i dat0) (l'.getD i dat0) = false → samesD l l' = false := fun h => by
        cases hx : samesD l l' with
        | false => rfl
        | true => rw [samesD_iff] at hx; rw [hx.2 i hkl] at h; cases h
      have hyes : sameD (l.getD i dat0) (l'.getD i dat0) = true → ∀ j, j < i + 1 → sameD (l.getD j dat0) (l'.getD j dat0) = true := fun h j hj => by
        by_cases hji : j < i
        · exact HA.out j hji
        · obtain rfl : j = i := by omega
          exact h
      obtain ⟨d, hd⟩ : ∃ d, d = l.getD i dat0 := ⟨_, rfl⟩
      obtain ⟨d', hd'⟩ : ∃ d', d' = l'.getD i dat0 := ⟨_, rfl⟩
      have hno2 : sameD d d' = false → samesD l l' = false := by rw [hd, hd']; exact hno
      have hyes2 : sameD d d' = true → ∀ j, j < i + 1 → sameD (l.getD j dat0) (l'.getD j dat0) = true := by rw [hd, hd']; exact hyes
      rw [← hd] at c0 c1 hs hgk
      rw [← hd'] at d0 d1 hs'
      obtain ⟨pa, pc, hsv⟩ := hs.val
      obtain ⟨q, hq⟩ : ∃ q, q = d.list.length := ⟨_, rfl⟩
      obtain ⟨pa', pc', hsv'⟩ := hs'.val
      obtain ⟨q', hq'⟩ : ∃ q, q = d'.list.length := ⟨_, rfl⟩
      rw [← hq] at hsv
      rw [← hq'] at hsv'
      subst hsv hsv'
      have C := fun w' h1' h2' => HI.out d d' (.slice pa q pc) (.slice pa' q' pc') (ar + 1) w' (by omega) (by omega) (by omega) h1' h2'
      have HC := Lib.hid C
      have HS := Lib.hid hs
      have HS' := Lib.hid hs'
      have HBK := Lib.hid hyes2
      have HNO := Lib.hid hno2
      clear hd hs hd' hs' hno hyes hno2 hyes2 C HA hq hq' hgk
      obtain ⟨r, hr⟩ : ∃ r, r = sameD d d' := ⟨_, rfl⟩
      rw [← hr] at HC HBK HNO
      clear hr
      have i0 : (0 : Int) ≤ i := by omega
      have i1 : (i : Int) < m := by omega
      have C2 := HC.out
      have key : ∀ w', Below w.heap.size wr w' → Calls Tryd.prog 32 #[.agg #[.int .i64 d.kind, .string d.text, .slice pa q pc], .agg #[.int .i64 d'.kind, .string d'.text, .slice pa' q' pc'], .int .i64 (ar + 1)] w' fun e w'' => e = .returned (.bool r) ∧ Below w'.heap.size w' w'' := fun w' h =>
        C2 w' ((HS.out.under h).grow (by have := h.size; omega)) ((HS'.out.under h).grow (by have := h.size; omega))
      have HK := Lib.hid key
      clear C2 key
      obtain ⟨w1, hw1⟩ : ∃ w1, w1 = wr.alloc (.cells #[.int .i64 d.kind, .string d.text, .slice pa q pc] 30) := ⟨_, rfl⟩
      have b0 : w1.cell? ⟨wr.heap.size, 0, none⟩ = some (.int .i64 d.kind) := by rw [hw1]; simp [go_sem]
      have b1 : w1.cell? ⟨wr.heap.size, 1, none⟩ = some (.string d.text) := by rw [hw1]; simp [go_sem]
      have b2 : w1.cell? ⟨wr.heap.size, 2, none⟩ = some (.slice pa q pc) := by rw [hw1]; simp [go_sem]
      have hbw1 : Below wr.heap.size wr w1 := by rw [hw1]; exact (Below.refl _ _).alloc (Nat.le_refl _) _
      have hz1 : w1.heap.size = wr.heap.size + 1 := by rw [hw1]; simp
      have e2 : w1.cell? ⟨w.heap.size + 1, 2, none⟩ = some (.slice (some ⟨b', off', none⟩) m cap') := (hbw1.cell (p := ⟨_, _, _⟩) hsz).trans hd2
      have e3 : w1.cell? ⟨b', off' + i * 3, none⟩ = some (.int .i64 d'.kind) := (hbw1.cell (p := ⟨_, _, _⟩) (by show b' < _; omega)).trans d0
      have e4 : w1.cell? ⟨b', off' + i * 3 + 1, none⟩ = some (.string d'.text) := (hbw1.cell (p := ⟨_, _, _⟩) (by show b' < _; omega)).trans d1
      have e5 : w1.cell? ⟨b', off' + i * 3 + 2, none⟩ = some (.slice pa' q' pc') := (hbw1.cell (p := ⟨_, _, _⟩) (by show b' < _; omega)).trans d2
      have HBW1 := Lib.hid hbw1
      have HZ1 := Lib.hid hz1
      have hz2 : wr.heap.size < w1.heap.size := by omega
      have key2 : Calls Tryd.prog 32 #[.agg #[.int .i64 d.kind, .string d.text, .slice pa q pc], .agg #[.int .i64 d'.kind, .string d'.text, .slice pa' q' pc'], .int .i64 (ar + 1)] w1.drew fun e w'' => e = .returned (.bool r) ∧ Below w1.drew.heap.size w1.drew w'' :=
        HK.out _ (hbw1.mono (by omega)).drew
      have HK2 := Lib.hid key2
      clear hbw1 hz1 key2
      go_wp2
      rw [← hw1]
      clear hw1 d0 d1 d2 hd2 c0 c1 c2
      have hsum : IntKind.i64.wrap (ar + 1) = ar + 1 := IntWalk.i64_in _ (by omega)
      go_region_held3 (fun w' => w'.cell? ⟨w.heap.size + 1, 2, none⟩ = some (.slice (some ⟨b', off', none⟩) m cap') ∧ w'.cell? ⟨wr.heap.size, 0, none⟩ = some (.int .i64 d.kind) ∧ w'.cell? ⟨wr.heap.size, 1, none⟩ = some (.string d.text) ∧ w'.cell? ⟨wr.heap.size, 2, none⟩ = some (.slice pa q pc) ∧ w'.cell? ⟨b', off' + i * 3, none⟩ = some (.int .i64 d'.kind) ∧ w'.cell? ⟨b', off' + i * 3 + 1, none⟩ = some (.string d'.text) ∧ w'.cell? ⟨b', off' + i * 3 + 2, none⟩ = some (.slice pa' q' pc'))
        (first
          | go_keep
          | (go_split_ands
             refine ⟨?_, ?_, ?_, ?_, ?_, ?_, ?_⟩
             all_goals (rw [Below.cell hbw (by simp; omega)]; assumption)))
        ((go_at_call 32; refine HK2.out.mono ?_; rintro e w2 ⟨rfl, hbw⟩))
      clear hsum
      cases r
      · go_wp2
        go_ret
        exact ⟨ret_bool (by rw [HNO.out (by trivial)]), (HB.out.trans (HBW1.out.mono (by omega)).drew).trans (hbw.mono (by simp; omega))⟩
      · have hd2' : w2.cell? ⟨w.heap.size + 1, 2, none⟩ = some (.slice (some ⟨b', off', none⟩) m cap') := (Below.cell hbw (p := ⟨_, _, _⟩) (by simp; omega)).trans e2
        have HBW := Lib.hid ((HB.out.trans (HBW1.out.mono (by omega)).drew).trans (hbw.mono (by simp; omega)))
        have hsw := hbw.size
        simp at hsw
        clear hbw
        go_wp2
        exact ⟨⟨i + 1, by omega, by go_num, HBW, by omega, hd2', Lib.hid (HBK.out (by trivial))⟩, by simp [intOf]; omega⟩
    · have HR : Hid (samesD l l' = true) := by
        show _ = _
        rw [samesD_iff]
        have e1 := HM.out
        have e2 := HM'.out
        exact ⟨by omega, fun j hj => HA.out j (by omega)⟩
      go_wp2
      go_ret
      exact ⟨ret_bool (by rw [HR.out]), HB.out⟩

theorem sameW_all : ∀ n : Nat, SameWOK n := by
  intro n
  induction n with
  | zero =>
    intro x y sx sy ar w ha ha' hh hx hy
    obtain ⟨kx, tx, lx⟩ := x
    obtain ⟨ky, ty, ly⟩ := y
    rw [hgt_mk] at hh
    simp only [Dat.kind, Dat.text, Dat.list] at hh hx hy ⊢
    obtain rfl : lx = [] := by
      cases lx with
      | nil => rfl
      | cons a r => simp only [hgts] at hh; omega
    obtain ⟨pa, ca, rfl⟩ := hx.val
    obtain ⟨pb, cb, rfl⟩ := hy.val
    have e := sameD_eq (.mk kx tx []) (.mk ky ty ly)
    simp only [Dat.kind, Dat.text, Dat.list] at e
    rw [e]
    by_cases hall : kx = ky ∧ (tx.toList == ty.toList) = true ∧ ([] : List Dat).length = ly.length
    · obtain ⟨rfl, ht, hl⟩ := hall
      obtain rfl : ly = [] := List.length_eq_zero_iff.1 hl.symm
      rw [ht]
      simpa [samesD] using sameW_nil kx tx ty pa pb ca cb ar w ha (by omega) ht
    · have hf : (kx == ky && tx.toList == ty.toList && samesD [] ly) = false := by
        cases h1 : (kx == ky && tx.toList == ty.toList && samesD [] ly) with
        | false => rfl
        | true =>
          simp only [Bool.and_eq_true, beq_iff_eq] at h1
          exact absurd ⟨h1.1.1, by simpa using h1.1.2, samesD_len _ _ h1.2⟩ hall
      rw [hf]
      exact sameW_differ kx ky tx ty pa pb _ _ ca cb ar w hall
  | succ n ih =>
    intro x y sx sy ar w ha ha' hh hx hy
    obtain ⟨kx, tx, lx⟩ := x
    obtain ⟨ky, ty, ly⟩ := y
    rw [hgt_mk] at hh
    simp only [Dat.kind, Dat.text, Dat.list] at hh hx hy ⊢
    have e := sameD_eq (.mk kx tx lx) (.mk ky ty ly)
    simp only [Dat.kind, Dat.text, Dat.list] at e
    rw [e]
    by_cases hall : kx = ky ∧ (tx.toList == ty.toList) = true ∧ lx.length = ly.length
    · obtain ⟨rfl, ht, hl⟩ := hall
      rw [ht, beq_self_eq_true, Bool.true_and, Bool.true_and]
      rcases hx.inv with ⟨rfl, pa, ca, rfl⟩ | ⟨b, off, cap, rs, rfl, hb, hm, h5, h6⟩
      · obtain rfl : ly = [] := List.length_eq_zero_iff.1 hl.symm
        obtain ⟨pb, cb, rfl⟩ := hy.val
        simpa [samesD] using sameW_nil kx tx ty pa pb ca cb ar w ha (by omega) ht
      · rcases hy.inv with ⟨rfl, pb, cb, rfl⟩ | ⟨b', off', cap', rs', rfl, hb', hm', h5', h6'⟩
        · obtain rfl : lx = [] := List.length_eq_zero_iff.1 hl
          simpa [samesD] using sameW_nil kx tx ty _ pb cap cb ar w ha (by omega) ht
        · rw [← hl]
          exact sameW_some n ih kx tx ty b off cap b' off' cap' _ rs rs' lx ly ar w ha (by omega) ht rfl hl hm hh hb h5 h6 hb' h5' h6'
    · obtain ⟨pa, ca, rfl⟩ := hx.val
      obtain ⟨pb, cb, rfl⟩ := hy.val
      have hf : (kx == ky && tx.toList == ty.toList && samesD lx ly) = false := by
        cases h1 : (kx == ky && tx.toList == ty.toList && samesD lx ly) with
        | false => rfl
        | true =>
          simp only [Bool.and_eq_true, beq_iff_eq] at h1
          exact absurd ⟨h1.1.1, by simpa using h1.1.2, samesD_len _ _ h1.2⟩ hall
      rw [hf]
      exact sameW_differ kx ky tx ty pa pb _ _ ca cb ar w hall

set_option maxRecDepth 100000 in
set_option maxHeartbeats 1000000 in
theorem same_d (x y : Dat) (sx sy : Value) (w : World) (hh : hgt x ≤ 10000) (hx : SliceOf w (· < w.heap.size) sx x.list) (hy : SliceOf w (· < w.heap.size) sy y.list) :
    Calls Tryd.prog 16 #[.agg #[.int .i64 x.kind, .string x.text, sx], .agg #[.int .i64 y.kind, .string y.text, sy]] w fun e w' => e = .returned (.bool (sameD x y)) ∧ Below w.heap.size w w' := by
  have S := fun w' h1 h2 => sameW_all _ x y sx sy 0 w' (Int.le_refl _) (by omega) (Nat.le_refl _) h1 h2
  have HS := Lib.hid S
  have HX := Lib.hid hx
  have HY := Lib.hid hy
  obtain ⟨k, hk⟩ : ∃ k, k = x.kind := ⟨_, rfl⟩
  obtain ⟨t, ht⟩ : ∃ t, t = x.text := ⟨_, rfl⟩
  obtain ⟨k', hk'⟩ : ∃ k, k = y.kind := ⟨_, rfl⟩
  obtain ⟨t', ht'⟩ : ∃ t, t = y.text := ⟨_, rfl⟩
  rw [← hk, ← ht, ← hk', ← ht'] at HS ⊢
  obtain ⟨r, hr⟩ : ∃ r, r = sameD x y := ⟨_, rfl⟩
  rw [← hr] at HS ⊢
  clear S hx hy hk ht hk' ht' hr hh
  go_enter Tryd.func16, Tryd.ntmps16
  go_wp2_with fail
  refine (HS.out _ ((HX.out.under (((Below.refl _ _).alloc (Nat.le_refl _) _).alloc (by simp) _)).grow (by simp; omega)) ((HY.out.under (((Below.refl _ _).alloc (Nat.le_refl _) _).alloc (by simp) _)).grow (by simp; omega))).mono ?_
  rintro e w' ⟨rfl, hb⟩
  go_wp2
  go_ret
  exact ⟨rfl, (((Below.refl _ _).alloc (Nat.le_refl _) _).alloc (by simp) _).trans (hb.mono (by simp; omega))⟩
end Go.Proofs.YtghgjefobfaodaaDoor

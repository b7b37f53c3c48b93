import Derived.Test.YtghgjefobfaodaaDoorDatE
import Derived.Deep.RegionHeld3
namespace Go.Proofs.YtghgjefobfaodaaDoor
open Go.RowKit

/-- the heads of two data agree -/
def SameOK (n : Nat) : Prop := ∀ (x y : Dat) (sx sy : Value) (w : World), hgt x ≤ n → SliceOf w (· < w.heap.size) sx x.list → SliceOf w (· < w.heap.size) sy y.list →
    Calls Tryd.prog 17 #[.agg #[.int .i64 x.kind, .string x.text, sx], .agg #[.int .i64 y.kind, .string y.text, sy]] w fun e w' => e = .returned (.bool (sameD x y)) ∧ Below w.heap.size w w'

set_option maxRecDepth 100000 in
set_option maxHeartbeats 1000000 in
theorem refSame_differ (kx ky : Int) (tx ty : ByteArray) (pa pb : Option Addr) (m n ca cb : Nat) (w : World) (h : ¬ (kx = ky ∧ (tx.toList == ty.toList) = true ∧ m = n)) :
    Calls Tryd.prog 17 #[.agg #[.int .i64 kx, .string tx, .slice pa m ca], .agg #[.int .i64 ky, .string ty, .slice pb n cb]] w fun e w' => e = .returned (.bool false) ∧ Below w.heap.size w w' := by
  by_cases hk : kx = ky
  · subst hk
    cases ht : tx.toList == ty.toList
    · have ht2 : (tx.toList != ty.toList) = true := by rw [bne, ht]; rfl
      clear h
      go_enter Tryd.func17, Tryd.ntmps17
      go_wp2
      go_ret
      exact ⟨rfl, ((Below.refl _ _).alloc (Nat.le_refl _) _).alloc (by simp) _⟩
    · have ht2 : (tx.toList != ty.toList) = false := by rw [bne, ht]; rfl
      have hmn : ¬ m = n := fun e => h ⟨rfl, ht, e⟩
      have hmn2 : decide (m = n) = false := by simpa using hmn
      have hmn3 : (m == n) = false := by simpa using hmn
      have hmn4 : ((m : Int) == (n : Int)) = false := by simp; omega
      have hmn5 : ((m : Int) != (n : Int)) = true := by simp; omega
      have hmn6 : (m != n) = true := by simpa using hmn
      clear h
      go_enter Tryd.func17, Tryd.ntmps17
      go_wp2
      go_ret
      exact ⟨rfl, ((Below.refl _ _).alloc (Nat.le_refl _) _).alloc (by simp) _⟩
  · have hk2 : (kx != ky) = true := by simpa using hk
    have hk3 : (kx == ky) = false := by simpa using hk
    clear h
    go_enter Tryd.func17, Tryd.ntmps17
    go_wp2
    go_ret
    exact ⟨rfl, ((Below.refl _ _).alloc (Nat.le_refl _) _).alloc (by simp) _⟩

set_option maxRecDepth 100000 in
set_option maxHeartbeats 1000000 in
theorem refSame_nil (k : Int) (tx ty : ByteArray) (pa pb : Option Addr) (ca cb : Nat) (w : World) (ht : (tx.toList == ty.toList) = true) :
    Calls Tryd.prog 17 #[.agg #[.int .i64 k, .string tx, .slice pa 0 ca], .agg #[.int .i64 k, .string ty, .slice pb 0 cb]] w fun e w' => e = .returned (.bool true) ∧ Below w.heap.size w w' := by
  have ht2 : (tx.toList != ty.toList) = false := by rw [bne, ht]; rfl
  go_enter Tryd.func17, Tryd.ntmps17
  go_wp2
  refine wp_loop_rounds 1 ?_
  rw [rounds_succ]
  go_wp2
  go_ret
  exact ⟨rfl, ((Below.refl _ _).alloc (Nat.le_refl _) _).alloc (by simp) _⟩

set_option maxRecDepth 100000 in
set_option maxHeartbeats 4000000 in
theorem refSame_some (n : Nat) (ih : SameOK n) (k : Int) (tx ty : ByteArray) (b off cap b' off' cap' m : Nat) (rs rs' : List Raw) (l l' : List Dat) (w : World) (ht : (tx.toList == ty.toList) = true) (hm : m = l.length) (hm' : m = l'.length) (hml : m ≤ maxLen) (hh : hgts l ≤ n + 1)
    (hb : b < w.heap.size) (h5 : Rows3 w b off rs) (h6 : RawsOf w (· < w.heap.size) rs l) (hb' : b' < w.heap.size) (h5' : Rows3 w b' off' rs') (h6' : RawsOf w (· < w.heap.size) rs' l') :
    Calls Tryd.prog 17 #[.agg #[.int .i64 k, .string tx, .slice (some ⟨b, off, none⟩) m cap], .agg #[.int .i64 k, .string ty, .slice (some ⟨b', off', none⟩) m cap']] w fun e w' => e = .returned (.bool (samesD l l')) ∧ Below w.heap.size w w' := by
  have ht2 : (tx.toList != ty.toList) = false := by rw [bne, ht]; rfl
  unfold maxLen at hml
  have HM := Lib.hid hm
  have HM' := Lib.hid hm'
  have H5 := Lib.hid h5
  have H6 := Lib.hid h6
  have H5' := Lib.hid h5'
  have H6' := Lib.hid h6'
  have HI := Lib.hid ih
  clear hm hm' h5 h6 h5' h6' ih
  go_enter Tryd.func17, Tryd.ntmps17
  go_wp2
  go_loopw [5] (fun i wr => ∃ k : Nat, k ≤ m ∧ i = .int .i64 k ∧ Hid (Below w.heap.size w wr) ∧ w.heap.size + 1 < wr.heap.size ∧ wr.cell? ⟨w.heap.size, 2, none⟩ = some (.slice (some ⟨b, off, none⟩) m cap) ∧ wr.cell? ⟨w.heap.size + 1, 2, none⟩ = some (.slice (some ⟨b', off', none⟩) m cap') ∧ Hid (∀ j, j < k → sameD (l.getD j dat0) (l'.getD j dat0) = true)) (fun i _ => m - (intOf i).toNat)
  case atStart => exact ⟨0, Nat.zero_le _, rfl, Lib.hid (((Below.refl _ _).alloc (Nat.le_refl _) _).alloc (by simp) _), by simp, by simp [go_sem], by simp [go_sem], Lib.hid fun j hj => by omega⟩
  case round =>
    obtain ⟨i, hk, rfl, HB, hsz, hc2, hd2, HA⟩ := hrel
    by_cases hlt : i < m
    · have hkl : i < l.length := by rw [← HM.out]; exact hlt
      have hkl' : i < l'.length := by rw [← HM'.out]; exact hlt
      obtain ⟨sv, c0, c1, c2, hs⟩ := slice_at H5.out H6.out hb HB.out i hkl
      obtain ⟨sv', d0, d1, d2, hs'⟩ := slice_at H5'.out H6'.out hb' HB.out i hkl'
      have hgk := hgts_get l i hkl
      have hno : sameD (l.getD i dat0) (l'.getD i dat0) = false → samesD l l' = false := fun h => by
        cases hx : samesD l l' with
        | false => rfl
        | true => rw [samesD_iff] at hx; rw [hx.2 i hkl] at h; cases h
      have hyes : sameD (l.getD i dat0) (l'.getD i dat0) = true → ∀ j, j < i + 1 → sameD (l.getD j dat0) (l'.getD j dat0) = true := fun h j hj => by
        by_cases hji : j < i
        · exact HA.out j hji
        · obtain rfl : j = i := by omega
          exact h
      obtain ⟨d, hd⟩ : ∃ d, d = l.getD i dat0 := ⟨_, rfl⟩
      obtain ⟨d', hd'⟩ : ∃ d', d' = l'.getD i dat0 := ⟨_, rfl⟩
      have hno2 : sameD d d' = false → samesD l l' = false := by rw [hd, hd']; exact hno
      have hyes2 : sameD d d' = true → ∀ j, j < i + 1 → sameD (l.getD j dat0) (l'.getD j dat0) = true := by rw [hd, hd']; exact hyes
      rw [← hd] at c0 c1 hs hgk
      rw [← hd'] at d0 d1 hs'
      obtain ⟨pa, pc, hsv⟩ := hs.val
      obtain ⟨q, hq⟩ : ∃ q, q = d.list.length := ⟨_, rfl⟩
      obtain ⟨pa', pc', hsv'⟩ := hs'.val
      obtain ⟨q', hq'⟩ : ∃ q, q = d'.list.length := ⟨_, rfl⟩
      rw [← hq] at hsv
      rw [← hq'] at hsv'
      subst hsv hsv'
      have C := fun w' h1 h2 => HI.out d d' (.slice pa q pc) (.slice pa' q' pc') w' (by omega) h1 h2
      have HC := Lib.hid C
      have HS := Lib.hid hs
      have HS' := Lib.hid hs'
      have HBK := Lib.hid hyes2
      have HNO := Lib.hid hno2
      clear hd hs hd' hs' hno hyes hno2 hyes2 C HA hq hq' hgk
      obtain ⟨r, hr⟩ : ∃ r, r = sameD d d' := ⟨_, rfl⟩
      rw [← hr] at HC HBK HNO
      clear hr
      have i0 : (0 : Int) ≤ i := by omega
      have i1 : (i : Int) < m := by omega
      have C2 := HC.out
      have key : ∀ w', Below w.heap.size wr w' → Calls Tryd.prog 17 #[.agg #[.int .i64 d.kind, .string d.text, .slice pa q pc], .agg #[.int .i64 d'.kind, .string d'.text, .slice pa' q' pc']] w' fun e w'' => e = .returned (.bool r) ∧ Below w'.heap.size w' w'' := fun w' h =>
        C2 w' ((HS.out.under h).grow (by have := h.size; omega)) ((HS'.out.under h).grow (by have := h.size; omega))
      have HK := Lib.hid key
      clear C2 key
      go_wp2
      go_region_held3 (fun w' => w'.cell? ⟨w.heap.size, 2, none⟩ = some (.slice (some ⟨b, off, none⟩) m cap) ∧ w'.cell? ⟨w.heap.size + 1, 2, none⟩ = some (.slice (some ⟨b', off', none⟩) m cap') ∧ w'.cell? ⟨b, off + i * 3, none⟩ = some (.int .i64 d.kind) ∧ w'.cell? ⟨b, off + i * 3 + 1, none⟩ = some (.string d.text) ∧ w'.cell? ⟨b, off + i * 3 + 2, none⟩ = some (.slice pa q pc) ∧ w'.cell? ⟨b', off' + i * 3, none⟩ = some (.int .i64 d'.kind) ∧ w'.cell? ⟨b', off' + i * 3 + 1, none⟩ = some (.string d'.text) ∧ w'.cell? ⟨b', off' + i * 3 + 2, none⟩ = some (.slice pa' q' pc'))
        (first
          | go_keep
          | (go_split_ands
             refine ⟨?_, ?_, ?_, ?_, ?_, ?_, ?_, ?_⟩
             all_goals (rw [Below.cell hbw (by simp; omega)]; assumption)))
        ((go_at_call 17; refine (HK.out _ ?_).mono ?_; exact (Below.refl _ _).drew; rintro e w2 ⟨rfl, hbw⟩))
      cases r
      · go_wp2
        go_ret
        exact ⟨ret_bool (by rw [HNO.out (by trivial)]), HB.out.trans (((Below.refl _ _).drew).trans (hbw.mono (by simp; omega)))⟩
      · have hc2' : w2.cell? ⟨w.heap.size, 2, none⟩ = some (.slice (some ⟨b, off, none⟩) m cap) := (Below.cell hbw (p := ⟨_, _, _⟩) (by simp; omega)).trans hc2
        have hd2' : w2.cell? ⟨w.heap.size + 1, 2, none⟩ = some (.slice (some ⟨b', off', none⟩) m cap') := (Below.cell hbw (p := ⟨_, _, _⟩) (by simp; omega)).trans hd2
        have HBW := Lib.hid (HB.out.trans (((Below.refl _ _).drew).trans (hbw.mono (by simp; omega))))
        have hsw := hbw.size
        simp at hsw
        clear hbw
        go_wp2
        exact ⟨⟨i + 1, by omega, by go_num, HBW, by omega, hc2', hd2', Lib.hid (HBK.out (by trivial))⟩, by simp [intOf]; omega⟩
    · have HR : Hid (samesD l l' = true) := by
        show _ = _
        rw [samesD_iff]
        have e1 := HM.out
        have e2 := HM'.out
        exact ⟨by omega, fun j hj => HA.out j (by omega)⟩
      go_wp2
      go_ret
      exact ⟨ret_bool (by rw [HR.out]), HB.out⟩

theorem refSame_all : ∀ n : Nat, SameOK n := by
  intro n
  induction n with
  | zero =>
    intro x y sx sy w hh hx hy
    obtain ⟨kx, tx, lx⟩ := x
    obtain ⟨ky, ty, ly⟩ := y
    rw [hgt_mk] at hh
    simp only [Dat.kind, Dat.text, Dat.list] at hh hx hy ⊢
    obtain rfl : lx = [] := by
      cases lx with
      | nil => rfl
      | cons a r => simp only [hgts] at hh; omega
    obtain ⟨pa, ca, rfl⟩ := hx.val
    obtain ⟨pb, cb, rfl⟩ := hy.val
    have e := sameD_eq (.mk kx tx []) (.mk ky ty ly)
    simp only [Dat.kind, Dat.text, Dat.list] at e
    rw [e]
    by_cases hall : kx = ky ∧ (tx.toList == ty.toList) = true ∧ ([] : List Dat).length = ly.length
    · obtain ⟨rfl, ht, hl⟩ := hall
      obtain rfl : ly = [] := List.length_eq_zero_iff.1 hl.symm
      rw [ht]
      simpa [samesD] using refSame_nil kx tx ty pa pb ca cb w ht
    · have hf : (kx == ky && tx.toList == ty.toList && samesD [] ly) = false := by
        cases h1 : (kx == ky && tx.toList == ty.toList && samesD [] ly) with
        | false => rfl
        | true =>
          simp only [Bool.and_eq_true, beq_iff_eq] at h1
          exact absurd ⟨h1.1.1, by simpa using h1.1.2, samesD_len _ _ h1.2⟩ hall
      rw [hf]
      exact refSame_differ kx ky tx ty pa pb _ _ ca cb w hall
  | succ n ih =>
    intro x y sx sy w hh hx hy
    obtain ⟨kx, tx, lx⟩ := x
    obtain ⟨ky, ty, ly⟩ := y
    rw [hgt_mk] at hh
    simp only [Dat.kind, Dat.text, Dat.list] at hh hx hy ⊢
    have e := sameD_eq (.mk kx tx lx) (.mk ky ty ly)
    simp only [Dat.kind, Dat.text, Dat.list] at e
    rw [e]
    by_cases hall : kx = ky ∧ (tx.toList == ty.toList) = true ∧ lx.length = ly.length
    · obtain ⟨rfl, ht, hl⟩ := hall
      rw [ht, beq_self_eq_true, Bool.true_and, Bool.true_and]
      rcases hx.inv with ⟨rfl, pa, ca, rfl⟩ | ⟨b, off, cap, rs, rfl, hb, hm, h5, h6⟩
      · obtain rfl : ly = [] := List.length_eq_zero_iff.1 hl.symm
        obtain ⟨pb, cb, rfl⟩ := hy.val
        simpa [samesD] using refSame_nil kx tx ty pa pb ca cb w ht
      · rcases hy.inv with ⟨rfl, pb, cb, rfl⟩ | ⟨b', off', cap', rs', rfl, hb', hm', h5', h6'⟩
        · obtain rfl : lx = [] := List.length_eq_zero_iff.1 hl
          simpa [samesD] using refSame_nil kx tx ty _ pb cap cb w ht
        · rw [← hl]
          exact refSame_some n ih kx tx ty b off cap b' off' cap' _ rs rs' lx ly w ht rfl hl hm hh hb h5 h6 hb' h5' h6'
    · obtain ⟨pa, ca, rfl⟩ := hx.val
      obtain ⟨pb, cb, rfl⟩ := hy.val
      have hf : (kx == ky && tx.toList == ty.toList && samesD lx ly) = false := by
        cases h1 : (kx == ky && tx.toList == ty.toList && samesD lx ly) with
        | false => rfl
        | true =>
          simp only [Bool.and_eq_true, beq_iff_eq] at h1
          exact absurd ⟨h1.1.1, by simpa using h1.1.2, samesD_len _ _ h1.2⟩ hall
      rw [hf]
      exact refSame_differ kx ky tx ty pa pb _ _ ca cb w hall
theorem refSame_any (x y : Dat) (sx sy : Value) (w : World) (hx : SliceOf w (· < w.heap.size) sx x.list) (hy : SliceOf w (· < w.heap.size) sy y.list) :
    Calls Tryd.prog 17 #[.agg #[.int .i64 x.kind, .string x.text, sx], .agg #[.int .i64 y.kind, .string y.text, sy]] w fun e w' => e = .returned (.bool (sameD x y)) ∧ Below w.heap.size w w' :=
  refSame_all _ x y sx sy w (Nat.le_refl _) hx hy

set_option maxRecDepth 100000 in
set_option maxHeartbeats 1000000 in
theorem all_any (va vb : Value) (la lb : List Dat) (w : World) (ha : SliceOf w (· < w.heap.size) va la) (hb : SliceOf w (· < w.heap.size) vb lb) :
    Calls Tryd.prog 10 #[va, vb] w fun e w' => e = .returned (.bool (samesD la lb)) ∧ Below w.heap.size w w' := by
  have S := refSame_any (.mk 0 ⟨#[]⟩ la) (.mk 0 ⟨#[]⟩ lb) va vb w ha hb
  have e : sameD (.mk 0 ⟨#[]⟩ la) (.mk 0 ⟨#[]⟩ lb) = samesD la lb := by rw [sameD_eq]; simp [Dat.kind, Dat.text, Dat.list]
  rw [e] at S
  simp only [Dat.kind, Dat.text] at S
  obtain ⟨pa, ca, rfl⟩ := ha.val
  obtain ⟨pb, cb, rfl⟩ := hb.val
  have HS := Lib.hid S
  clear S e ha hb
  go_enter Tryd.func10, Tryd.ntmps10
  go_wp2_with fail
  refine HS.out.mono ?_
  rintro e w' ⟨rfl, hb⟩
  go_wp2
  go_ret
  exact ⟨rfl, hb⟩
end Go.Proofs.YtghgjefobfaodaaDoor

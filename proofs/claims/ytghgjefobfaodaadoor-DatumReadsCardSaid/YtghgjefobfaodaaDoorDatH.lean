import Derived.Test.YtghgjefobfaodaaDoorDatG
namespace Go.Proofs.YtghgjefobfaodaaDoor
open Go.RowKit

def FitsOK (n : Nat) : Prop := ∀ (d : Dat) (sv : Value) (w : World), wt d ≤ 10000 → SliceOf w (· < w.heap.size) sv d.list →
    Calls Tryd.prog 31 #[.agg #[.int .i64 d.kind, .string d.text, sv], .int .i64 n] w fun e w' => e = .returned (.bool (fitsD n d)) ∧ Below w.heap.size w w'

set_option maxRecDepth 100000 in
set_option maxHeartbeats 1000000 in
theorem fits_zero (t : ByteArray) (l : List Dat) (sv : Value) (w : World) (h : SliceOf w (· < w.heap.size) sv l) :
    Calls Tryd.prog 31 #[.agg #[.int .i64 5, .string t, sv], .int .i64 0] w fun e w' => e = .returned (.bool false) ∧ Below w.heap.size w w' := by
  have hlm := h.len
  obtain ⟨a, c, rfl⟩ := h.val
  clear h
  unfold maxLen at hlm
  by_cases h0 : 0 < l.length
  all_goals
    cases ht0 : t.toList == []
    all_goals
      go_enter Tryd.func31, Tryd.ntmps31
      go_wp2
      refine wp_loop_rounds 1 ?_
      rw [rounds_succ]
      go_wp2
      go_ret
      exact ⟨rfl, (Below.refl _ _).alloc (Nat.le_refl _) _⟩

set_option maxRecDepth 100000 in
set_option maxHeartbeats 1000000 in
theorem fits_nil (n : Nat) (_hn : n ≤ 100) (t : ByteArray) (a : Option Addr) (c : Nat) (w : World) :
    Calls Tryd.prog 31 #[.agg #[.int .i64 5, .string t, .slice a 0 c], .int .i64 ((n : Int) + 1)] w fun e w' => e = .returned (.bool (decide (t.size = 0))) ∧ Below w.heap.size w w' := by
  have HT := Lib.hid (data_size0 t)
  cases ht0 : t.toList == []
  all_goals
    go_enter Tryd.func31, Tryd.ntmps31
    go_wp2
    refine wp_loop_rounds 1 ?_
    rw [rounds_succ]
    go_wp2
    go_ret
    exact ⟨ret_bool (by rw [← HT.out, ht0]), (Below.refl _ _).alloc (Nat.le_refl _) _⟩

set_option maxRecDepth 100000 in
set_option maxHeartbeats 4000000 in
theorem fits_some (n : Nat) (hn : n ≤ 100) (ih : FitsOK n) (b off cap m : Nat) (rs : List Raw) (l : List Dat) (t : ByteArray) (w : World) (hm : m = l.length) (hw : wts l ≤ 10000)
    (hb : b < w.heap.size) (h5 : Rows3 w b off rs) (h6 : RawsOf w (· < w.heap.size) rs l) :
    Calls Tryd.prog 31 #[.agg #[.int .i64 5, .string t, .slice (some ⟨b, off, none⟩) m cap], .int .i64 ((n : Int) + 1)] w fun e w' => e = .returned (.bool (l.all (fitsD n) && decide (t.size = 0))) ∧ Below w.heap.size w w' := by
  have HT := Lib.hid (data_size0 t)
  have hml := wts_len l
  have hm2 : m ≤ 10000 := by omega
  have HM := Lib.hid hm
  have H5 := Lib.hid h5
  have H6 := Lib.hid h6
  have HI := Lib.hid ih
  clear hm h5 h6 ih
  go_enter Tryd.func31, Tryd.ntmps31
  go_wp2
  go_loopw [5] (fun i wr => ∃ k : Nat, k ≤ m ∧ i = .int .i64 k ∧ Hid (Below w.heap.size w wr) ∧ w.heap.size < wr.heap.size ∧ wr.cell? ⟨w.heap.size, 2, none⟩ = some (.slice (some ⟨b, off, none⟩) m cap) ∧ wr.cell? ⟨w.heap.size, 1, none⟩ = some (.string t) ∧ Hid ((l.take k).all (fitsD n) = true)) (fun i _ => m - (intOf i).toNat)
  case atStart => exact ⟨0, Nat.zero_le _, rfl, Lib.hid ((Below.refl _ _).alloc (Nat.le_refl _) _), by simp, by simp [go_sem], by simp [go_sem], Lib.hid rfl⟩
  case round =>
    obtain ⟨k, hk, rfl, HB, hsz, hc2, hc1, HA⟩ := hrel
    by_cases hlt : k < m
    · have hkl : k < l.length := by rw [← HM.out]; exact hlt
      obtain ⟨sv, c0, c1, c2, hs⟩ := slice_at H5.out H6.out hb HB.out k hkl
      have hwk := wts_get l k hkl
      have hbk := bget (p := fitsD n) k hkl
      rw [HA.out, Bool.true_and] at hbk
      have hno := fun h => ball_not (p := fitsD n) k hkl h
      obtain ⟨d, hd⟩ : ∃ d, d = l.getD k dat0 := ⟨_, rfl⟩
      rw [← hd] at c0 c1 hs hwk hbk hno
      obtain ⟨pa, pc, hsv⟩ := hs.val
      obtain ⟨q, hq⟩ : ∃ q, q = d.list.length := ⟨_, rfl⟩
      rw [← hq] at hsv
      subst hsv
      have C := fun w' hb' => HI.out d (.slice pa q pc) w' (by omega) hb'
      have HC := Lib.hid C
      have HS := Lib.hid hs
      have HBK := Lib.hid hbk
      have HNO := Lib.hid hno
      clear hd hs hbk hno C HA hwk hq
      obtain ⟨r, hr⟩ : ∃ r, r = fitsD n d := ⟨_, rfl⟩
      rw [← hr] at HC HBK HNO
      clear hr
      cases r
      · go_wp2_with fail
        refine (HC.out _ ((HS.out.under (Below.refl _ _)).grow (by omega))).mono ?_
        rintro e w' ⟨rfl, hbw⟩
        have HBW := Lib.hid hbw
        clear hbw
        go_wp2
        go_ret
        exact ⟨ret_bool (by rw [HNO.out (by trivial), Bool.false_and]), HB.out.trans (HBW.out.mono (by omega))⟩
      · go_wp2_with fail
        refine (HC.out _ ((HS.out.under (Below.refl _ _)).grow (by omega))).mono ?_
        rintro e w' ⟨rfl, hbw⟩
        have hc2' := (hbw.cell (p := ⟨w.heap.size, 2, none⟩) hsz).trans hc2
        have hc1' := (hbw.cell (p := ⟨w.heap.size, 1, none⟩) hsz).trans hc1
        have HBW := Lib.hid (HB.out.trans (hbw.mono (by omega)))
        have hsw := hbw.size
        clear hbw
        go_wp2
        exact ⟨⟨k + 1, by omega, by go_num, HBW, by omega, hc2', hc1', HBK⟩, by simp [intOf]; omega⟩
    · have hkm : k = l.length := by have := HM.out; omega
      have HR : Hid (l.all (fitsD n) = true) := by
        show _ = _
        have := HA.out
        rwa [hkm, List.take_of_length_le (Nat.le_refl _)] at this
      clear hkm
      cases ht0 : t.toList == []
      all_goals
        go_wp2
        go_ret
        exact ⟨ret_bool (by rw [HR.out, ← HT.out, ht0]; rfl), HB.out⟩

theorem fits_any : ∀ n : Nat, n ≤ 100 → FitsOK n := by
  intro n
  induction n with
  | zero =>
    intro hn d sv w hw hs
    obtain ⟨k, t, l⟩ := d
    rw [wt_eq] at hw
    simp only [Dat.kind, Dat.text, Dat.list] at hs hw ⊢
    by_cases h5 : k = 5
    · subst h5
      have : fitsD 0 (.mk 5 t l) = false := rfl
      rw [this]
      exact fits_zero t l sv w hs
    · have : fitsD 0 (.mk k t l) = leafR (.mk k t l) := if_neg h5
      rw [this]
      exact fits_leaf k t l sv _ w h5 (by omega) hs
  | succ n ih =>
    intro hn d sv w hw hs
    obtain ⟨k, t, l⟩ := d
    rw [wt_eq] at hw
    simp only [Dat.kind, Dat.text, Dat.list] at hs hw ⊢
    rw [show ((n + 1 : Nat) : Int) = (n : Int) + 1 by omega]
    by_cases h5 : k = 5
    · subst h5
      have e : fitsD (n + 1) (.mk 5 t l) = (l.all (fitsD n) && decide (t.size = 0)) := if_pos rfl
      rw [e]
      rcases hs.inv with ⟨rfl, a, c, rfl⟩ | ⟨b, off, cap, rs, rfl, hb, hm, h5, h6⟩
      · have := fits_nil n (by omega) t a c w
        simpa using this
      · exact fits_some n (by omega) (ih (by omega)) b off cap _ rs l t w rfl (by omega) hb h5 h6
    · have : fitsD (n + 1) (.mk k t l) = leafR (.mk k t l) := if_neg h5
      rw [this]
      exact fits_leaf k t l sv _ w h5 (by omega) hs
end Go.Proofs.YtghgjefobfaodaaDoor

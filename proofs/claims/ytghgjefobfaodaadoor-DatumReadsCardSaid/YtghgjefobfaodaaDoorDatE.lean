import Derived.Test.YtghgjefobfaodaaDoorDatD
namespace Go.Proofs.YtghgjefobfaodaaDoor
open Go.RowKit

theorem leafC_eq (k : Int) (t : ByteArray) (l : List Dat) : leafC (.mk k t l) = (decide (l.length = 0) && leafC (.mk k t [])) := by
  have e1 : leafC (.mk k t l) = (decide (1 ≤ k) && decide (k ≤ 4) && decide (l.length = 0) && validT ⟨k + 3, t, 0⟩ && (k != 2 || (plainC t.data.toList == t.data.toList && decide (digs t ≤ 200)))) := rfl
  have e2 : leafC (.mk k t []) = (decide (1 ≤ k) && decide (k ≤ 4) && true && validT ⟨k + 3, t, 0⟩ && (k != 2 || (plainC t.data.toList == t.data.toList && decide (digs t ≤ 200)))) := rfl
  rw [e1, e2]
  cases decide (l.length = 0)
  · simp only [Bool.and_false, Bool.false_and]
  · simp only [Bool.and_true, Bool.true_and]
theorem data_size0 (t : ByteArray) : (t.toList == []) = decide (t.size = 0) := by
  have e : t.data.toList.length = t.size := Array.length_toList
  rw [Lib.toList_data, Bool.eq_iff_iff, beq_iff_eq, decide_eq_true_eq, ← e, List.length_eq_zero_iff]

/-- right, where it is no list -/
theorem rightW_leaf (k : Int) (t : ByteArray) (l : List Dat) (sv : Value) (ar : Int) (w : World) (hk : k ≠ 5) (ht : t.size ≤ 10000) (h : SliceOf w (· < w.heap.size) sv l) :
    Calls Tryd.prog 29 #[.agg #[.int .i64 k, .string t, sv], .int .i64 ar] w fun e w' => e = .returned (.bool (leafC (.mk k t l))) ∧ Below w.heap.size w w' := by
  have hk5 : (k != 5) = true := by simpa using hk
  have hlm := h.len
  obtain ⟨a, c, rfl⟩ := h.val
  have HL := Lib.hid (leafC_eq k t l)
  have R := fun w => rightText_any k t (.slice a l.length c) ht w
  obtain ⟨x, hx⟩ : ∃ x, x = leafC (.mk k t []) := ⟨_, rfl⟩
  rw [← hx] at R HL
  have HR := Lib.hid R
  clear R hx h
  unfold maxLen at hlm
  by_cases h0 : l.length = 0
  · have h0' : ((l.length : Int) == 0) = true := by simpa using h0
    rw [h0] at HR h0' ⊢
    go_enter Tryd.func29, Tryd.ntmps29
    go_wp2_with fail
    refine (HR.out _).mono ?_
    rintro e w' ⟨rfl, hb⟩
    go_wp2
    go_ret
    exact ⟨ret_bool (by rw [HL.out, h0]; rfl), ((Below.refl _ _).alloc (Nat.le_refl _) _).trans (hb.mono (by simp))⟩
  · have h0' : ((l.length : Int) == 0) = false := by simpa using h0
    go_enter Tryd.func29, Tryd.ntmps29
    go_wp2
    go_ret
    exact ⟨ret_bool (by rw [HL.out, decide_eq_false h0]; rfl), (Below.refl _ _).alloc (Nat.le_refl _) _⟩

/-- a list's element, as the walk meets it -/
theorem slice_at {w wr : World} {B b off : Nat} {rs : List Raw} {l : List Dat} (h5 : Rows3 w b off rs) (h6 : RawsOf w (· < B) rs l) (hb : b < B) (hB : Below B w wr) (k : Nat) (hk : k < l.length) :
    ∃ sv, wr.cell? ⟨b, off + k * 3, none⟩ = some (.int .i64 (l.getD k dat0).kind) ∧ wr.cell? ⟨b, off + k * 3 + 1, none⟩ = some (.string (l.getD k dat0).text) ∧ wr.cell? ⟨b, off + k * 3 + 2, none⟩ = some sv ∧ SliceOf wr (· < B) sv (l.getD k dat0).list := by
  have hl := h6.1
  obtain ⟨c0, c1, c2⟩ := h5 k (by omega)
  obtain ⟨e0, e1, hs⟩ := h6.2 k hk
  refine ⟨(rs.getD k raw0).sv, ?_, ?_, ?_, hs.under hB⟩
  · rw [hB.cell (p := ⟨b, _, none⟩) hb, c0, e0]
  · rw [hB.cell (p := ⟨b, _, none⟩) hb, c1, e1]
  · rw [hB.cell (p := ⟨b, _, none⟩) hb, c2]

/-- right, where it is a list that is too deep -/
theorem rightW_deep (t : ByteArray) (l : List Dat) (sv : Value) (w : World) (h : SliceOf w (· < w.heap.size) sv l) :
    Calls Tryd.prog 29 #[.agg #[.int .i64 5, .string t, sv], .int .i64 60] w fun e w' => e = .returned (.bool false) ∧ Below w.heap.size w w' := by
  obtain ⟨a, c, rfl⟩ := h.val
  clear h
  cases ht0 : t.toList == []
  all_goals
    go_enter Tryd.func29, Tryd.ntmps29
    go_wp2
    go_ret
    exact ⟨rfl, (Below.refl _ _).alloc (Nat.le_refl _) _⟩

/-- right, where it is a list -/
theorem rightW_nil (ar : Nat) (t : ByteArray) (a : Option Addr) (c : Nat) (w : World) (har : ar < 60) :
    Calls Tryd.prog 29 #[.agg #[.int .i64 5, .string t, .slice a 0 c], .int .i64 ar] w fun e w' => e = .returned (.bool (decide (t.size = 0))) ∧ Below w.heap.size w w' := by
  have HT := Lib.hid (data_size0 t)
  have h60 : ((ar : Int) == 60) = false := by simp; omega
  cases ht0 : t.toList == []
  · have ht1 : (t.toList != []) = true := by rw [bne, ht0]; rfl
    go_enter Tryd.func29, Tryd.ntmps29
    go_wp2
    go_ret
    exact ⟨ret_bool (by rw [← HT.out, ht0]), (Below.refl _ _).alloc (Nat.le_refl _) _⟩
  · have ht1 : (t.toList != []) = false := by rw [bne, ht0]; rfl
    go_enter Tryd.func29, Tryd.ntmps29
    go_wp2
    refine wp_loop_rounds 1 ?_
    rw [rounds_succ]
    go_wp2
    go_ret
    exact ⟨ret_bool (by rw [← HT.out, ht0]), (Below.refl _ _).alloc (Nat.le_refl _) _⟩

/-- the contract of rightWithin, with so many levels left -/
def RightOK (n : Nat) : Prop := ∀ (d : Dat) (sv : Value) (ar : Nat) (w : World), ar + n = 60 → wt d ≤ 10000 → SliceOf w (· < w.heap.size) sv d.list →
    Calls Tryd.prog 29 #[.agg #[.int .i64 d.kind, .string d.text, sv], .int .i64 ar] w fun e w' => e = .returned (.bool (rightD n d)) ∧ Below w.heap.size w w'

set_option maxRecDepth 100000 in
set_option maxHeartbeats 4000000 in
theorem rightW_some (n : Nat) (ih : RightOK n) (b off cap m : Nat) (rs : List Raw) (l : List Dat) (t : ByteArray) (ar : Nat) (w : World) (har : ar + n = 59) (hm : m = l.length) (hw : wts l ≤ 10000)
    (hb : b < w.heap.size) (h5 : Rows3 w b off rs) (h6 : RawsOf w (· < w.heap.size) rs l) :
    Calls Tryd.prog 29 #[.agg #[.int .i64 5, .string t, .slice (some ⟨b, off, none⟩) m cap], .int .i64 ar] w fun e w' => e = .returned (.bool (decide (t.size = 0) && l.all (rightD n))) ∧ Below w.heap.size w w' := by
  have HT := Lib.hid (data_size0 t)
  have h60 : ((ar : Int) == 60) = false := by simp; omega
  have hml := wts_len l
  have hm2 : m ≤ 10000 := by omega
  have HM := Lib.hid hm
  have H5 := Lib.hid h5
  have H6 := Lib.hid h6
  have HI := Lib.hid ih
  clear hm h5 h6 ih
  cases ht0 : t.toList == []
  · have ht1 : (t.toList != []) = true := by rw [bne, ht0]; rfl
    go_enter Tryd.func29, Tryd.ntmps29
    go_wp2
    go_ret
    exact ⟨ret_bool (by rw [← HT.out, ht0]; rfl), (Below.refl _ _).alloc (Nat.le_refl _) _⟩
  · have ht1 : (t.toList != []) = false := by rw [bne, ht0]; rfl
    go_enter Tryd.func29, Tryd.ntmps29
    go_wp2
    go_loopw [28] (fun i wr => ∃ k : Nat, k ≤ m ∧ i = .int .i64 k ∧ Hid (Below w.heap.size w wr) ∧ w.heap.size ≤ wr.heap.size ∧ Hid ((l.take k).all (rightD n) = true)) (fun i _ => m - (intOf i).toNat)
    case atStart => exact ⟨0, Nat.zero_le _, rfl, Lib.hid ((Below.refl _ _).alloc (Nat.le_refl _) _), by simp, Lib.hid rfl⟩
    case round =>
      obtain ⟨k, hk, rfl, HB, hsz, HA⟩ := hrel
      by_cases hlt : k < m
      · have hkl : k < l.length := by rw [← HM.out]; exact hlt
        obtain ⟨sv, c0, c1, c2, hs⟩ := slice_at H5.out H6.out hb HB.out k hkl
        have hwk := wts_get l k hkl
        have hbk := bget (p := rightD n) k hkl
        rw [HA.out, Bool.true_and] at hbk
        have hno := fun h => ball_not (p := rightD n) k hkl h
        obtain ⟨d, hd⟩ : ∃ d, d = l.getD k dat0 := ⟨_, rfl⟩
        rw [← hd] at c0 c1 hs hwk hbk hno
        obtain ⟨pa, pc, hsv⟩ := hs.val
        obtain ⟨q, hq⟩ : ∃ q, q = d.list.length := ⟨_, rfl⟩
        rw [← hq] at hsv
        subst hsv
        have C := fun w' hb' => HI.out d (.slice pa q pc) (ar + 1) w' (by omega) (by omega) hb'
        rw [show ((ar + 1 : Nat) : Int) = (ar : Int) + 1 by omega] at C
        have HC := Lib.hid C
        have HS := Lib.hid hs
        have HBK := Lib.hid hbk
        have HNO := Lib.hid hno
        clear hd hs hbk hno C HA hwk hq
        obtain ⟨r, hr⟩ : ∃ r, r = rightD n d := ⟨_, rfl⟩
        rw [← hr] at HC HBK HNO
        clear hr
        cases r
        · go_wp2_with fail
          refine (HC.out _ ((HS.out.under ((Below.refl _ _).alloc hsz _)).grow (by simp; omega))).mono ?_
          rintro e w' ⟨rfl, hbw⟩
          have HBW := Lib.hid hbw
          clear hbw
          go_wp2
          go_ret
          exact ⟨ret_bool (by rw [HNO.out (by trivial), Bool.and_false]), (HB.out.alloc hsz _).trans (HBW.out.mono (by simp; omega))⟩
        · go_wp2_with fail
          refine (HC.out _ ((HS.out.under ((Below.refl _ _).alloc hsz _)).grow (by simp; omega))).mono ?_
          rintro e w' ⟨rfl, hbw⟩
          have HBW := Lib.hid ((HB.out.alloc hsz _).trans (hbw.mono (by simp; omega)))
          have hsw := HBW.out.size
          clear hbw
          go_wp2
          exact ⟨⟨k + 1, by omega, by go_num, HBW, hsw, HBK⟩, by simp [intOf]; omega⟩
      · have hkm : k = l.length := by have := HM.out; omega
        have HR : Hid (l.all (rightD n) = true) := by
          show _ = _
          have := HA.out
          rwa [hkm, List.take_of_length_le (Nat.le_refl _)] at this
        clear hkm
        go_wp2
        go_ret
        exact ⟨ret_bool (by rw [HR.out, ← HT.out, ht0]; rfl), HB.out⟩

theorem rightW_any : ∀ n : Nat, n ≤ 60 → RightOK n := by
  intro n
  induction n with
  | zero =>
    intro hn d sv ar w har hw hs
    obtain ⟨k, t, l⟩ := d
    rw [wt_eq] at hw
    simp only [Dat.kind, Dat.text, Dat.list] at hs hw ⊢
    by_cases h5 : k = 5
    · subst h5
      obtain rfl : ar = 60 := by omega
      have : rightD 0 (.mk 5 t l) = false := rfl
      rw [this]
      exact rightW_deep t l sv w hs
    · have : rightD 0 (.mk k t l) = leafC (.mk k t l) := if_neg h5
      rw [this]
      exact rightW_leaf k t l sv ar w h5 (by omega) hs
  | succ n ih =>
    intro hn d sv ar w har hw hs
    obtain ⟨k, t, l⟩ := d
    rw [wt_eq] at hw
    simp only [Dat.kind, Dat.text, Dat.list] at hs hw ⊢
    by_cases h5 : k = 5
    · subst h5
      have e : rightD (n + 1) (.mk 5 t l) = (decide (t.size = 0) && l.all (rightD n)) := if_pos rfl
      rw [e]
      rcases hs.inv with ⟨rfl, a, c, rfl⟩ | ⟨b, off, cap, rs, rfl, hb, hm, h5, h6⟩
      · have := rightW_nil ar t a c w (by omega)
        simpa using this
      · exact rightW_some n (ih (by omega)) b off cap _ rs l t ar w (by omega) rfl (by omega) hb h5 h6
    · have : rightD (n + 1) (.mk k t l) = leafC (.mk k t l) := if_neg h5
      rw [this]
      exact rightW_leaf k t l sv ar w h5 (by omega) hs

set_option maxRecDepth 100000 in
set_option maxHeartbeats 1000000 in
theorem right_any (d : Dat) (sv : Value) (w : World) (hw : wt d ≤ 10000) (hs : SliceOf w (· < w.heap.size) sv d.list) :
    Calls Tryd.prog 14 #[.agg #[.int .i64 d.kind, .string d.text, sv]] w fun e w' => e = .returned (.bool (rightD 60 d)) ∧ Below w.heap.size w w' := by
  have C := fun w' h => rightW_any 60 (Nat.le_refl _) d sv 0 w' rfl hw h
  have HC := Lib.hid C
  have HS := Lib.hid hs
  obtain ⟨k, hk⟩ : ∃ k, k = d.kind := ⟨_, rfl⟩
  obtain ⟨t, ht⟩ : ∃ t, t = d.text := ⟨_, rfl⟩
  rw [← hk, ← ht] at HC ⊢
  obtain ⟨r, hr⟩ : ∃ r, r = rightD 60 d := ⟨_, rfl⟩
  rw [← hr] at HC ⊢
  clear C hs hk ht hr hw
  go_enter Tryd.func14, Tryd.ntmps14
  go_wp2_with fail
  refine (HC.out _ ((HS.out.under ((Below.refl _ _).alloc (Nat.le_refl _) _)).grow (by simp))).mono ?_
  rintro e w' ⟨rfl, hb⟩
  go_wp2
  go_ret
  exact ⟨rfl, ((Below.refl _ _).alloc (Nat.le_refl _) _).trans (hb.mono (by simp))⟩
end Go.Proofs.YtghgjefobfaodaaDoor

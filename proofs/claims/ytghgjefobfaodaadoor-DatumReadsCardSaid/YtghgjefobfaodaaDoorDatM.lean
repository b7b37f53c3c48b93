import Derived.Test.YtghgjefobfaodaaDoorDatL
import Derived.Test.YtghgjefobfaodaaDoorDatI
namespace Go.Proofs.YtghgjefobfaodaaDoor
open Go.RowKit

def TextOK (n : Nat) : Prop := ∀ (d : Dat) (sv : Value) (w : World), rightD n d = true → wt d ≤ 10000 → SliceOf w (· < w.heap.size) sv d.list →
    Calls Tryd.prog 28 #[.agg #[.int .i64 d.kind, .string d.text, sv]] w fun e w' => e = .returned (.string ⟨(textD d).toArray⟩) ∧ Below w.heap.size w w'

set_option maxRecDepth 100000 in
set_option maxHeartbeats 1000000 in
theorem text_leaf (k : Int) (t : ByteArray) (sv : Value) (w : World) (hk : 1 ≤ k) (hk' : k ≤ 4) (hv : validT ⟨k + 3, t, 0⟩ = true) (ht : t.size ≤ 10000) :
    Calls Tryd.prog 28 #[.agg #[.int .i64 k, .string t, sv]] w fun e w' => e = .returned (.string ⟨(spellL (k + 3) t).toArray⟩) ∧ Below w.heap.size w w' := by
  have hk5 : (k != 5) = true := by rw [bne_iff_ne]; omega
  have S := fun v w h => rtext (k + 3) t ht v w h
  have hS : tokS ⟨k + 3, t, 0⟩ = ⟨(spellL (k + 3) t).toArray⟩ := by unfold tokS; rw [if_pos hv]
  rw [hS] at S
  obtain ⟨z, hz⟩ : ∃ z, z = spellL (k + 3) t := ⟨_, rfl⟩
  rw [← hz] at S ⊢
  have HS := Lib.hid S
  clear S hS hz hv
  go_enter Tryd.func28, Tryd.ntmps28
  go_wp2_with fail
  refine (HS.out _ _ (toks_lit (k := k + 3) (p := 0) (by simp) (by simp [go_sem]) (by simp [go_sem]) (by simp [go_sem]))).mono ?_
  rintro e w' ⟨rfl, hb⟩
  have HB := Lib.hid hb
  clear hb
  go_wp2
  go_ret
  exact ⟨rfl, (((Below.refl _ _).alloc (Nat.le_refl _) _).alloc (by simp) _).trans (HB.out.mono (by simp; omega))⟩

set_option maxRecDepth 100000 in
set_option maxHeartbeats 4000000 in
theorem text_list (n : Nat) (ih : TextOK n) (t : ByteArray) (a : Option Addr) (m cap : Nat) (l : List Dat) (w : World) (hr : l.all (rightD n) = true) (hm : m = l.length) (hw : wts l ≤ 10000) (hs : SliceOf w (· < w.heap.size) (.slice a m cap) l) :
    Calls Tryd.prog 28 #[.agg #[.int .i64 5, .string t, .slice a m cap]] w fun e w' => e = .returned (.string ⟨(soFar l l.length ++ [41]).toArray⟩) ∧ Below w.heap.size w w' := by
  have hml := wts_len l
  have hm2 : m ≤ 10000 := by omega
  by_cases hm0 : m = 0
  · obtain rfl : l = [] := List.length_eq_zero_iff.1 (by rw [← hm]; exact hm0)
    subst hm0
    clear hs hml hm hm2 hw hr ih
    go_enter Tryd.func28, Tryd.ntmps28
    go_wp2
    refine wp_loop_rounds 1 ?_
    rw [rounds_succ]
    go_wp2
    go_ret
    exact ⟨rfl, (Below.refl _ _).alloc (Nat.le_refl _) _⟩
  · obtain ⟨b, off, rs, ha, hb, h5, h6⟩ : ∃ b off rs, a = some ⟨b, off, none⟩ ∧ b < w.heap.size ∧ Rows3 w b off rs ∧ RawsOf w (· < w.heap.size) rs l := by
      rcases hs.inv with ⟨rfl, a', c', e⟩ | ⟨b', off, cap', rs, e, h1, h2, h3, h4⟩
      · exact absurd hm hm0
      · simp only [Value.slice.injEq] at e
        exact ⟨b', off, rs, e.1, h1, h3, h4⟩
    subst ha
    have HM := Lib.hid hm
    have H5 := Lib.hid h5
    have H6 := Lib.hid h6
    have HI := Lib.hid ih
    have HR := Lib.hid hr
    clear hm h5 h6 ih hs hr
    go_enter Tryd.func28, Tryd.ntmps28
    go_wp2
    go_loopw [5, 6] (fun s i wr => ∃ (k : Nat) (X : List UInt8), k ≤ m ∧ i = .int .i64 k ∧ s = .string ⟨X.toArray⟩ ∧ Hid (X = soFar l k) ∧ Hid (Below w.heap.size w wr) ∧ w.heap.size < wr.heap.size ∧ wr.cell? ⟨w.heap.size, 2, none⟩ = some (.slice (some ⟨b, off, none⟩) m cap)) (fun _ i _ => m - (intOf i).toNat)
    case atStart => exact ⟨0, [40], Nat.zero_le _, rfl, rfl, Lib.hid rfl, Lib.hid ((Below.refl _ _).alloc (Nat.le_refl _) _), by simp, by simp [go_sem]⟩
    case round =>
      obtain ⟨k, X, hk, rfl, rfl, HX, HB, hsz, hcell⟩ := hrel
      by_cases hlt : k < m
      · have hkl : k < l.length := by rw [← HM.out]; exact hlt
        obtain ⟨sv, c0, c1, c2, hse⟩ := slice_at H5.out H6.out hb HB.out k hkl
        have hwk := wts_get l k hkl
        have hrd : rightD n (l.getD k dat0) = true := List.all_eq_true.1 HR.out _ (by simp [List.getD_eq_getElem?_getD, hkl])
        have hsl := soFar_room l k hkl
        have hso0 : k = 0 → soFar l (k + 1) = X ++ textD (l.getD k dat0) := fun e => by rw [HX.out]; subst e; exact soFar_zero l hkl
        have hso1 : k ≠ 0 → soFar l (k + 1) = (X ++ [32]) ++ textD (l.getD k dat0) := fun e => by rw [HX.out]; exact soFar_succ l k hkl e
        rw [← HX.out] at hsl
        have htl := (textD_len (l.getD k dat0)).1
        obtain ⟨d, hd⟩ : ∃ d, d = l.getD k dat0 := ⟨_, rfl⟩
        rw [← hd] at c0 c1 hse hwk hrd hso0 hso1 hsl htl
        obtain ⟨pa, pc, hsv⟩ := hse.val
        obtain ⟨q, hq⟩ : ∃ q, q = d.list.length := ⟨_, rfl⟩
        rw [← hq] at hsv
        subst hsv
        have C := fun w' h => HI.out d (.slice pa q pc) w' hrd (by omega) h
        obtain ⟨z, hz⟩ : ∃ z, z = textD d := ⟨_, rfl⟩
        rw [← hz] at C hso0 hso1 htl
        have HC := Lib.hid C
        have HSE := Lib.hid hse
        have hzl : z.length ≤ 100000 := by omega
        have hXl : X.length ≤ 100000 := by omega
        have HZL := Lib.hid hzl
        have HXL := Lib.hid hXl
        have hzl2 : (z.length : Int) ≤ 100000 := by omega
        have hXl2 : (X.length : Int) ≤ 100000 := by omega
        by_cases hk0 : k = 0
        · have HSO := Lib.hid (hso0 hk0)
          have hk1 : decide (0 < k) = false := by simp; omega
          clear hso0 hso1 C hrd hse hq hd hsl hwk hz htl hk0 hzl hXl HX
          go_wp2_with fail
          refine (HC.out _ ((HSE.out.under (Below.refl _ _)).grow (by omega))).mono ?_
          rintro e w4 ⟨rfl, hb4⟩
          have hc4 := (hb4.cell (p := ⟨_, _, _⟩) hsz).trans hcell
          have HB4 := Lib.hid (HB.out.trans (hb4.mono (by omega)))
          have hs4 := hb4.size
          clear hb4
          go_wp2
          exact ⟨⟨k + 1, X ++ z, by omega, by go_num, str_app _ _, Lib.hid HSO.out.symm, HB4, by omega, hc4⟩, by simp [intOf]; omega⟩
        · have HSO := Lib.hid (hso1 hk0)
          have hk1 : (0 : Int) < k := by omega
          clear hso0 hso1 C hrd hse hq hd hsl hwk hz htl hk0 hzl hXl HX
          go_wp2_with fail
          refine (HC.out _ ((HSE.out.under (Below.refl _ _)).grow (by omega))).mono ?_
          rintro e w4 ⟨rfl, hb4⟩
          have hc4 := (hb4.cell (p := ⟨_, _, _⟩) hsz).trans hcell
          have HB4 := Lib.hid (HB.out.trans (hb4.mono (by omega)))
          have hs4 := hb4.size
          clear hb4
          go_wp2
          exact ⟨⟨k + 1, (X ++ [32]) ++ z, by omega, by go_num, str_app3 _ _, Lib.hid HSO.out.symm, HB4, by omega, hc4⟩, by simp [intOf]; omega⟩
      · have hkm : k = l.length := by have := HM.out; omega
        have hsl := soFar_len l k
        rw [← HX.out] at hsl
        have hXl2 : (X.length : Int) ≤ 100000 := by omega
        have HE : Hid (soFar l l.length = X) := by show _ = _; rw [HX.out, hkm]
        clear hkm hsl
        go_wp2
        go_ret
        refine ⟨?_, HB.out⟩
        rw [HE.out]
        exact congrArg Ending.returned (str_app X ⟨#[41]⟩)

theorem text_all : ∀ n : Nat, TextOK n := by
  intro n
  induction n with
  | zero =>
    intro d sv w hr hw hs
    obtain ⟨k, t, l⟩ := d
    have h5 : ¬ k = 5 := fun e => by
      subst e
      have : rightD 0 (.mk 5 t l) = false := rfl
      rw [this] at hr; cases hr
    have e : rightD 0 (.mk k t l) = leafC (.mk k t l) := if_neg h5
    rw [e] at hr
    obtain ⟨h1, h2, h3, h4⟩ := leafC_facts hr
    have et : textD (.mk k t l) = spellL (k + 3) t := by rw [textD_eq]; exact if_neg h5
    rw [wt_eq] at hw
    rw [et]
    exact text_leaf k t sv w h1 h2 h3 (by simp only [Dat.text] at hw; omega)
  | succ n ih =>
    intro d sv w hr hw hs
    by_cases h5 : d.kind = 5
    · have e : rightD (n + 1) d = (decide (d.text.size = 0) && d.list.all (rightD n)) := if_pos h5
      rw [e, Bool.and_eq_true] at hr
      have et := soFar_end d h5
      obtain ⟨a, c, rfl⟩ := hs.val
      rw [wt_eq] at hw
      rw [et, h5]
      exact text_list n ih d.text a _ c d.list w hr.2 rfl (by omega) hs
    · have e : rightD (n + 1) d = leafC d := if_neg h5
      rw [e] at hr
      obtain ⟨h1, h2, h3, h4⟩ := leafC_facts hr
      have et : textD d = spellL (d.kind + 3) d.text := by rw [textD_eq, if_neg h5]
      rw [wt_eq] at hw
      rw [et]
      exact text_leaf d.kind d.text sv w h1 h2 h3 (by omega)

/-- the code's and the document's words of what may be agree -/
theorem leaf_same (d : Dat) (hnum : ∀ t : ByteArray, validT ⟨5, t, 0⟩ = true → isNum t.data.toList = true) : leafC d = leafR d := by
  unfold leafC leafR
  by_cases h2 : d.kind = 2
  · cases hv : validT ⟨d.kind + 3, d.text, 0⟩
    · simp
    · have hv' := hv
      rw [h2] at hv'
      rw [plain_same (hnum _ hv')]
  · have : (d.kind != 2) = true := by simpa using h2
    rw [this]; simp
theorem foldl_max_le (f : Dat → Nat) (B : Nat) : ∀ (l : List Dat) (a : Nat), l.foldl (fun m x => max m (f x)) a ≤ B ↔ a ≤ B ∧ ∀ x ∈ l, f x ≤ B
  | [], a => by simp
  | d :: r, a => by
    rw [List.foldl_cons, foldl_max_le f B r]
    simp only [List.mem_cons, forall_eq_or_imp]
    constructor
    · rintro ⟨h1, h2⟩; exact ⟨by omega, by omega, h2⟩
    · rintro ⟨h1, h2, h3⟩; exact ⟨by omega, h3⟩
theorem right_same (hnum : ∀ t : ByteArray, validT ⟨5, t, 0⟩ = true → isNum t.data.toList = true) : ∀ (n : Nat) (d : Dat), n ≤ 98 → rightD n d = (decide (depthD (n + 1) d ≤ n) && fitsD (n + 1) d) := by
  intro n
  induction n with
  | zero =>
    intro d _
    by_cases h5 : d.kind = 5
    · have e1 : rightD 0 d = false := if_pos h5
      have e2 : depthD 1 d = d.list.foldl (fun m x => max m (depthD 0 x)) 0 + 1 := if_pos h5
      rw [e1, e2, decide_eq_false (by omega)]; rfl
    · have e1 : rightD 0 d = leafC d := if_neg h5
      have e2 : depthD 1 d = 0 := if_neg h5
      have e3 : fitsD 1 d = leafR d := if_neg h5
      rw [e1, e2, e3, leaf_same d hnum]; simp
  | succ n ih =>
    intro d hn
    by_cases h5 : d.kind = 5
    · have e1 : rightD (n + 1) d = (decide (d.text.size = 0) && d.list.all (rightD n)) := if_pos h5
      have e2 : depthD (n + 1 + 1) d = d.list.foldl (fun m x => max m (depthD (n + 1) x)) 0 + 1 := if_pos h5
      have e3 : fitsD (n + 1 + 1) d = (d.list.all (fitsD (n + 1)) && decide (d.text.size = 0)) := if_pos h5
      rw [e1, e2, e3, Bool.eq_iff_iff]
      simp only [Bool.and_eq_true, decide_eq_true_eq, List.all_eq_true]
      rw [show (d.list.foldl (fun m x => max m (depthD (n + 1) x)) 0 + 1 ≤ n + 1) ↔ (d.list.foldl (fun m x => max m (depthD (n + 1) x)) 0 ≤ n) by omega, foldl_max_le]
      constructor
      · rintro ⟨h1, h2⟩
        have h3 : ∀ x ∈ d.list, depthD (n + 1) x ≤ n ∧ fitsD (n + 1) x = true := fun x hx => by
          have := h2 x hx
          rw [ih x (by omega)] at this
          simpa using this
        exact ⟨⟨by omega, fun x hx => (h3 x hx).1⟩, fun x hx => (h3 x hx).2, h1⟩
      · rintro ⟨⟨_, h1⟩, h2, h3⟩
        exact ⟨h3, fun x hx => by rw [ih x (by omega)]; simp [h1 x hx, h2 x hx]⟩
    · have e1 : rightD (n + 1) d = leafC d := if_neg h5
      have e2 : depthD (n + 1 + 1) d = 0 := if_neg h5
      have e3 : fitsD (n + 1 + 1) d = leafR d := if_neg h5
      rw [e1, e2, e3, leaf_same d hnum]; simp
end Go.Proofs.YtghgjefobfaodaaDoor

import Derived.Test.YtghgjefobfaodaaDoorDatH
namespace Go.Proofs.YtghgjefobfaodaaDoor
open Go.RowKit

def maxTo (n : Nat) (l : List Dat) : Nat := l.foldl (fun m x => max m (depthD n x)) 0
theorem maxTo_snoc (n : Nat) (l : List Dat) (k : Nat) (h : k < l.length) : maxTo n (l.take (k + 1)) = max (maxTo n (l.take k)) (depthD n (l.getD k dat0)) := by
  unfold maxTo
  rw [List.take_succ_eq_append_getElem h, List.foldl_append]
  simp [List.getD_eq_getElem?_getD, h]
theorem maxTo_le (n B : Nat) (hB : ∀ x, depthD n x ≤ B) : ∀ (l : List Dat) (a : Nat), a ≤ B → l.foldl (fun m x => max m (depthD n x)) a ≤ B
  | [], a, h => h
  | d :: r, a, h => by
    have := hB d
    exact maxTo_le n B hB r _ (by show max a (depthD n d) ≤ B; omega)
theorem depthD_le : ∀ (n : Nat) (d : Dat), depthD n d ≤ 100 + n
  | 0, d => by unfold depthD; split <;> omega
  | n + 1, d => by
    unfold depthD
    split
    · have := maxTo_le n (100 + n) (depthD_le n) d.list 0 (by omega)
      omega
    · omega

def DepthOK (n : Nat) : Prop := ∀ (d : Dat) (sv : Value) (w : World), SliceOf w (· < w.heap.size) sv d.list →
    Calls Tryd.prog 30 #[.agg #[.int .i64 d.kind, .string d.text, sv], .int .i64 n] w fun e w' => e = .returned (.int .i64 (depthD n d : Nat)) ∧ Below w.heap.size w w'

set_option maxRecDepth 100000 in
set_option maxHeartbeats 1000000 in
theorem depth_leaf (k n : Int) (t : ByteArray) (sv : Value) (w : World) (hk : k ≠ 5) :
    Calls Tryd.prog 30 #[.agg #[.int .i64 k, .string t, sv], .int .i64 n] w fun e w' => e = .returned (.int .i64 0) ∧ Below w.heap.size w w' := by
  have hk5 : (k != 5) = true := by simpa using hk
  go_enter Tryd.func30, Tryd.ntmps30
  go_wp2
  go_ret
  exact ⟨rfl, (Below.refl _ _).alloc (Nat.le_refl _) _⟩

set_option maxRecDepth 100000 in
set_option maxHeartbeats 1000000 in
theorem depth_zero (t : ByteArray) (sv : Value) (w : World) :
    Calls Tryd.prog 30 #[.agg #[.int .i64 5, .string t, sv], .int .i64 0] w fun e w' => e = .returned (.int .i64 100) ∧ Below w.heap.size w w' := by
  go_enter Tryd.func30, Tryd.ntmps30
  go_wp2
  go_ret
  exact ⟨rfl, (Below.refl _ _).alloc (Nat.le_refl _) _⟩

set_option maxRecDepth 100000 in
set_option maxHeartbeats 1000000 in
theorem depth_nil (n : Nat) (t : ByteArray) (a : Option Addr) (c : Nat) (w : World) :
    Calls Tryd.prog 30 #[.agg #[.int .i64 5, .string t, .slice a 0 c], .int .i64 ((n : Int) + 1)] w fun e w' => e = .returned (.int .i64 1) ∧ Below w.heap.size w w' := by
  have hn0 : ((n : Int) + 1 == 0) = false := by simp; omega
  go_enter Tryd.func30, Tryd.ntmps30
  go_wp2
  refine wp_loop_rounds 1 ?_
  rw [rounds_succ]
  go_wp2
  go_ret
  exact ⟨rfl, (Below.refl _ _).alloc (Nat.le_refl _) _⟩

set_option maxRecDepth 100000 in
set_option maxHeartbeats 4000000 in
theorem depth_some (n : Nat) (hn : n ≤ 100) (ih : DepthOK n) (b off cap m : Nat) (rs : List Raw) (l : List Dat) (t : ByteArray) (w : World) (hm : m = l.length) (hml : m ≤ maxLen)
    (hb : b < w.heap.size) (h5 : Rows3 w b off rs) (h6 : RawsOf w (· < w.heap.size) rs l) :
    Calls Tryd.prog 30 #[.agg #[.int .i64 5, .string t, .slice (some ⟨b, off, none⟩) m cap], .int .i64 ((n : Int) + 1)] w fun e w' => e = .returned (.int .i64 ((maxTo n l + 1 : Nat) : Int)) ∧ Below w.heap.size w w' := by
  unfold maxLen at hml
  have hn0 : ((n : Int) + 1 == 0) = false := by simp; omega
  have HM := Lib.hid hm
  have H5 := Lib.hid h5
  have H6 := Lib.hid h6
  have HI := Lib.hid ih
  clear hm h5 h6 ih
  go_enter Tryd.func30, Tryd.ntmps30
  go_wp2
  go_loopw [5, 6] (fun s i wr => ∃ k : Nat, k ≤ m ∧ i = .int .i64 k ∧ (∃ a : Nat, a ≤ 200 ∧ s = .int .i64 a ∧ Hid (maxTo n (l.take k) = a)) ∧ Hid (Below w.heap.size w wr) ∧ w.heap.size < wr.heap.size ∧ wr.cell? ⟨w.heap.size, 2, none⟩ = some (.slice (some ⟨b, off, none⟩) m cap)) (fun _ i _ => m - (intOf i).toNat)
  case atStart => exact ⟨0, Nat.zero_le _, rfl, ⟨0, by omega, rfl, Lib.hid rfl⟩, Lib.hid ((Below.refl _ _).alloc (Nat.le_refl _) _), by simp, by simp [go_sem]⟩
  case round =>
    obtain ⟨k, hk, rfl, ⟨a, ha, rfl, HA⟩, HB, hsz, hcell⟩ := hrel
    by_cases hlt : k < m
    · have hkl : k < l.length := by rw [← HM.out]; exact hlt
      obtain ⟨sv, c0, c1, c2, hs⟩ := slice_at H5.out H6.out hb HB.out k hkl
      have hsn := maxTo_snoc n l k hkl
      rw [HA.out] at hsn
      have hle := depthD_le n (l.getD k dat0)
      obtain ⟨d, hd⟩ : ∃ d, d = l.getD k dat0 := ⟨_, rfl⟩
      rw [← hd] at c0 c1 hs hsn hle
      obtain ⟨pa, pc, hsv⟩ := hs.val
      obtain ⟨q, hq⟩ : ∃ q, q = d.list.length := ⟨_, rfl⟩
      rw [← hq] at hsv
      subst hsv
      have C := fun w' hb' => HI.out d (.slice pa q pc) w' hb'
      obtain ⟨z, hz⟩ : ∃ z, z = depthD n d := ⟨_, rfl⟩
      rw [← hz] at C hsn hle
      have HC := Lib.hid C
      have HS := Lib.hid hs
      have HSN := Lib.hid hsn
      clear hd hs hsn C HA hq hz
      go_wp2_with fail
      refine (HC.out _ ((HS.out.under (Below.refl _ _)).grow (by omega))).mono ?_
      rintro e w' ⟨rfl, hbw⟩
      have hcell' := (hbw.cell (p := ⟨w.heap.size, 2, none⟩) hsz).trans hcell
      have HBW := Lib.hid (HB.out.trans (hbw.mono (by omega)))
      have hsw := hbw.size
      clear hbw
      go_wp2
      exact ⟨⟨k + 1, by omega, by go_num, ⟨max a z, by omega, by congr 1; omega, HSN⟩, HBW, by omega, hcell'⟩, by simp [intOf]; omega⟩
    · have HF : Hid (maxTo n l = a) := by
        show _ = _
        have := HA.out
        rwa [List.take_of_length_le (by rw [← HM.out]; omega)] at this
      go_wp2
      go_ret
      exact ⟨ret_int (by rw [HF.out]; omega), HB.out⟩

theorem depth_any : ∀ n : Nat, n ≤ 100 → DepthOK n := by
  intro n
  induction n with
  | zero =>
    intro hn d sv w hs
    obtain ⟨k, t, l⟩ := d
    simp only [Dat.kind, Dat.text]
    by_cases h5 : k = 5
    · subst h5
      exact depth_zero t sv w
    · have : depthD 0 (.mk k t l) = 0 := if_neg h5
      rw [this]
      exact depth_leaf k _ t sv w h5
  | succ n ih =>
    intro hn d sv w hs
    obtain ⟨k, t, l⟩ := d
    simp only [Dat.kind, Dat.text, Dat.list] at hs ⊢
    rw [show ((n + 1 : Nat) : Int) = (n : Int) + 1 by omega]
    by_cases h5 : k = 5
    · subst h5
      have e : depthD (n + 1) (.mk 5 t l) = maxTo n l + 1 := if_pos rfl
      rw [e]
      rcases hs.inv with ⟨rfl, a, c, rfl⟩ | ⟨b, off, cap, rs, rfl, hb, hm, h5, h6⟩
      · exact depth_nil n t a c w
      · exact depth_some n (by omega) (ih (by omega)) b off cap _ rs l t w rfl hm hb h5 h6
    · have : depthD (n + 1) (.mk k t l) = 0 := if_neg h5
      rw [this]
      exact depth_leaf k _ t sv w h5

def rightR (d : Dat) : Bool := decide (depthD 61 d ≤ 60) && fitsD 61 d
set_option maxRecDepth 100000 in
set_option maxHeartbeats 1000000 in
theorem refRight_any (d : Dat) (sv : Value) (w : World) (hw : wt d ≤ 10000) (hs : SliceOf w (· < w.heap.size) sv d.list) :
    Calls Tryd.prog 15 #[.agg #[.int .i64 d.kind, .string d.text, sv]] w fun e w' => e = .returned (.bool (rightR d)) ∧ Below w.heap.size w w' := by
  have C := fun w' h => depth_any 61 (by omega) d sv w' h
  have F := fun w' h => fits_any 61 (by omega) d sv w' hw h
  have HC := Lib.hid C
  have HF := Lib.hid F
  have HS := Lib.hid hs
  have HR : Hid (rightR d = (decide (depthD 61 d ≤ 60) && fitsD 61 d)) := rfl
  obtain ⟨k, hk⟩ : ∃ k, k = d.kind := ⟨_, rfl⟩
  obtain ⟨t, ht⟩ : ∃ t, t = d.text := ⟨_, rfl⟩
  rw [← hk, ← ht] at HC HF ⊢
  obtain ⟨r, hr⟩ : ∃ r, r = depthD 61 d := ⟨_, rfl⟩
  obtain ⟨f, hf⟩ : ∃ f, f = fitsD 61 d := ⟨_, rfl⟩
  rw [← hr] at HC HR
  rw [← hf] at HF HR
  clear C F hs hk ht hr hf hw
  by_cases h60 : r ≤ 60
  · go_enter Tryd.func15, Tryd.ntmps15
    go_wp2_with fail
    refine (HC.out _ ((HS.out.under ((Below.refl _ _).alloc (Nat.le_refl _) _)).grow (by simp))).mono ?_
    rintro e w' ⟨rfl, hb⟩
    obtain ⟨hcl, hfr⟩ := bcell hb
    have HB := Lib.hid (((Below.refl _ _).alloc (Nat.le_refl _) _).trans (hb.mono (by simp)))
    have hsz := hb.size
    simp at hsz
    clear hb
    go_wp2_with fail
    refine (HF.out _ ((HS.out.under HB.out).grow (by omega))).mono ?_
    rintro e w2 ⟨rfl, hb2⟩
    have HB2 := Lib.hid hb2
    clear hb2
    go_wp2
    go_ret
    exact ⟨ret_bool (by rw [HR.out, decide_eq_true h60]; rfl), HB.out.trans (HB2.out.mono (by omega))⟩
  · go_enter Tryd.func15, Tryd.ntmps15
    go_wp2_with fail
    refine (HC.out _ ((HS.out.under ((Below.refl _ _).alloc (Nat.le_refl _) _)).grow (by simp))).mono ?_
    rintro e w' ⟨rfl, hb⟩
    have HB := Lib.hid hb
    clear hb
    go_wp2
    go_ret
    exact ⟨ret_bool (by rw [HR.out, decide_eq_false (by omega)]; rfl), ((Below.refl _ _).alloc (Nat.le_refl _) _).trans (HB.out.mono (by simp))⟩
end Go.Proofs.YtghgjefobfaodaaDoor

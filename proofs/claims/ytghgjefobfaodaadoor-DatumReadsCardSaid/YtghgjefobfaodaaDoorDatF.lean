import Derived.Test.YtghgjefobfaodaaDoorDatE
namespace Go.Proofs.YtghgjefobfaodaaDoor
open Go.RowKit

/-- the first k of a sum that stops -/
def sumTo (n : Nat) (a : Nat) (l : List Dat) : Nat := l.foldl (fun m x => if m < 100000 then min (m + sizeD n x) 100000 else m) a
theorem sumTo_snoc (n a : Nat) (l : List Dat) (k : Nat) (h : k < l.length) : sumTo n a (l.take (k + 1)) = if sumTo n a (l.take k) < 100000 then min (sumTo n a (l.take k) + sizeD n (l.getD k dat0)) 100000 else sumTo n a (l.take k) := by
  unfold sumTo
  rw [List.take_succ_eq_append_getElem h, List.foldl_append]
  simp [List.getD_eq_getElem?_getD, h]
theorem sumTo_stop (n : Nat) : ∀ (l : List Dat) (a : Nat), 100000 ≤ a → sumTo n a l = a
  | [], a, _ => rfl
  | d :: r, a, h => by
    have e : sumTo n a (d :: r) = sumTo n (if a < 100000 then min (a + sizeD n d) 100000 else a) r := rfl
    rw [e, if_neg (by omega)]
    exact sumTo_stop n r a h
theorem sumTo_take (n a k : Nat) (l : List Dat) (h : 100000 ≤ sumTo n a (l.take k)) : sumTo n a l = sumTo n a (l.take k) := by
  have e : sumTo n a l = sumTo n (sumTo n a (l.take k)) (l.drop k) := by
    unfold sumTo
    rw [← List.foldl_append, List.take_append_drop]
  rw [e, sumTo_stop n _ _ h]
theorem sumTo_le (n : Nat) : ∀ (l : List Dat) (a : Nat), a ≤ 100001 → sumTo n a l ≤ 100001
  | [], a, h => h
  | d :: r, a, h => by
    have e : sumTo n a (d :: r) = sumTo n (if a < 100000 then min (a + sizeD n d) 100000 else a) r := rfl
    rw [e]
    refine sumTo_le n r _ ?_
    split <;> omega
theorem sizeD_succ (n : Nat) (d : Dat) : sizeD (n + 1) d = sumTo n (1 + min d.text.size 100000) d.list := rfl
theorem sizeD_le (n : Nat) (d : Dat) : sizeD n d ≤ 100001 := by
  cases n with
  | zero => show 100000 ≤ 100001; omega
  | succ n => rw [sizeD_succ]; exact sumTo_le _ _ _ (by omega)

mutual
/-- no text is too long -/
def okT : Dat → Prop
  | .mk _ t l => t.size ≤ maxLen ∧ okTs l
def okTs : List Dat → Prop
  | [] => True
  | d :: r => okT d ∧ okTs r
end
theorem okT_eq (d : Dat) : okT d ↔ d.text.size ≤ maxLen ∧ okTs d.list := by cases d; simp [okT, Dat.text, Dat.list]
theorem okTs_get : ∀ (l : List Dat) (j : Nat), okTs l → j < l.length → okT (l.getD j dat0)
  | [], j, _, h => by simp at h
  | d :: r, 0, h, _ => by simp only [okTs] at h; simpa using h.1
  | d :: r, j + 1, h, hj => by simp only [okTs] at h; simpa using okTs_get r j h.2 (by simpa using hj)
def SizeOK (n : Nat) : Prop := ∀ (d : Dat) (sv : Value) (w : World), okT d → SliceOf w (· < w.heap.size) sv d.list →
    Calls Tryd.prog 25 #[.agg #[.int .i64 d.kind, .string d.text, sv], .int .i64 n] w fun e w' => e = .returned (.int .i64 (sizeD n d : Nat)) ∧ Below w.heap.size w w'

set_option maxRecDepth 100000 in
set_option maxHeartbeats 4000000 in
theorem size_some (n : Nat) (hn : n ≤ 100) (ih : SizeOK n) (b off cap m : Nat) (rs : List Raw) (l : List Dat) (kd : Int) (t : ByteArray) (w : World) (hm : m = l.length) (hml : m ≤ maxLen) (ht : t.size ≤ maxLen)
    (hb : b < w.heap.size) (h5 : Rows3 w b off rs) (h6 : RawsOf w (· < w.heap.size) rs l) (htx : okTs l) :
    Calls Tryd.prog 25 #[.agg #[.int .i64 kd, .string t, .slice (some ⟨b, off, none⟩) m cap], .int .i64 ((n : Int) + 1)] w fun e w' => e = .returned (.int .i64 (sumTo n (1 + min t.size 100000) l : Nat)) ∧ Below w.heap.size w w' := by
  unfold maxLen at hml ht
  have hn0 : ((n : Int) + 1 == 0) = false := by simp; omega
  obtain ⟨s0, hs0⟩ : ∃ s0, s0 = 1 + min t.size 100000 := ⟨_, rfl⟩
  rw [← hs0]
  have hs1 : (1 : Int) + min (t.size : Int) 100000 = s0 := by omega
  have hs2 : s0 ≤ 100001 := by omega
  have HM := Lib.hid hm
  have H5 := Lib.hid h5
  have H6 := Lib.hid h6
  have HI := Lib.hid ih
  have HX := Lib.hid htx
  have HS1 := Lib.hid hs1
  clear hm h5 h6 ih hs0 htx hs1
  go_enter Tryd.func25, Tryd.ntmps25
  go_wp2
  rw [HS1.out]
  go_loopw [5, 6] (fun s i wr => ∃ k : Nat, k ≤ m ∧ i = .int .i64 k ∧ (∃ a : Nat, a ≤ 100001 ∧ s = .int .i64 a ∧ Hid (sumTo n s0 (l.take k) = a)) ∧ Hid (Below w.heap.size w wr) ∧ w.heap.size < wr.heap.size ∧ wr.cell? ⟨w.heap.size, 2, none⟩ = some (.slice (some ⟨b, off, none⟩) m cap)) (fun _ i _ => m - (intOf i).toNat)
  case atStart => exact ⟨0, Nat.zero_le _, rfl, ⟨s0, hs2, rfl, Lib.hid rfl⟩, Lib.hid ((Below.refl _ _).alloc (Nat.le_refl _) _), by simp, by simp [go_sem]⟩
  case round =>
    obtain ⟨k, hk, rfl, ⟨a, ha, rfl, HA⟩, HB, hsz, hcell⟩ := hrel
    by_cases hlt : k < m
    · have hkl : k < l.length := by rw [← HM.out]; exact hlt
      by_cases hal : a < 100000
      · obtain ⟨sv, c0, c1, c2, hs⟩ := slice_at H5.out H6.out hb HB.out k hkl
        have hx := okTs_get l k HX.out hkl
        have hsn := sumTo_snoc n s0 l k hkl
        rw [HA.out, if_pos hal] at hsn
        have hle := sizeD_le n (l.getD k dat0)
        obtain ⟨d, hd⟩ : ∃ d, d = l.getD k dat0 := ⟨_, rfl⟩
        rw [← hd] at c0 c1 hs hx hsn hle
        obtain ⟨pa, pc, hsv⟩ := hs.val
        obtain ⟨q, hq⟩ : ∃ q, q = d.list.length := ⟨_, rfl⟩
        rw [← hq] at hsv
        subst hsv
        have C := fun w' hb' => HI.out d (.slice pa q pc) w' hx hb'
        obtain ⟨z, hz⟩ : ∃ z, z = sizeD n d := ⟨_, rfl⟩
        rw [← hz] at C hsn hle
        have HC := Lib.hid C
        have HS := Lib.hid hs
        have HSN := Lib.hid hsn
        clear hd hs hsn C HA hq hz hx
        have hal2 : (a : Int) < 100000 := by omega
        have hle2 : (z : Int) ≤ 100001 := by omega
        have HAL := Lib.hid hal
        have HHA := Lib.hid ha
        have HLE := Lib.hid hle
        clear hal ha hle
        go_wp2_with fail
        refine (HC.out _ ((HS.out.under (Below.refl _ _)).grow (by omega))).mono ?_
        rintro e w' ⟨rfl, hbw⟩
        have hcell' := (hbw.cell (p := ⟨w.heap.size, 2, none⟩) hsz).trans hcell
        have HBW := Lib.hid (HB.out.trans (hbw.mono (by omega)))
        have hsw := hbw.size
        clear hbw
        have hle := HLE.out
        have ha := HHA.out
        have hmin : min ((a : Int) + (z : Int)) 100000 = ((min (a + z) 100000 : Nat) : Int) := by omega
        have HMIN := Lib.hid hmin
        clear hmin hle ha
        go_wp2
        exact ⟨⟨k + 1, by omega, by go_num, ⟨min (a + z) 100000, by have := HLE.out; omega, by rw [HMIN.out], HSN⟩, HBW, by omega, hcell'⟩, by simp [intOf]; omega⟩
      · have HF := Lib.hid (sumTo_take n s0 k l (by rw [HA.out]; omega))
        have hal2 : decide ((a : Int) < 100000) = false := by simp; omega
        have HHA := Lib.hid ha
        clear hal ha
        go_wp2
        go_ret
        exact ⟨ret_int (by rw [HF.out, HA.out]), HB.out⟩
    · have HF : Hid (sumTo n s0 l = a) := by
        show _ = _
        have := HA.out
        rwa [List.take_of_length_le (by rw [← HM.out]; omega)] at this
      go_wp2
      go_ret
      exact ⟨ret_int (by rw [HF.out]), HB.out⟩

set_option maxRecDepth 100000 in
set_option maxHeartbeats 1000000 in
theorem size_nil (n : Nat) (hn : n ≤ 100) (kd : Int) (t : ByteArray) (a : Option Addr) (c : Nat) (w : World) (ht : t.size ≤ maxLen) :
    Calls Tryd.prog 25 #[.agg #[.int .i64 kd, .string t, .slice a 0 c], .int .i64 ((n : Int) + 1)] w fun e w' => e = .returned (.int .i64 ((1 + min t.size 100000 : Nat) : Int)) ∧ Below w.heap.size w w' := by
  unfold maxLen at ht
  have hn0 : ((n : Int) + 1 == 0) = false := by simp; omega
  go_enter Tryd.func25, Tryd.ntmps25
  go_wp2
  refine wp_loop_rounds 1 ?_
  rw [rounds_succ]
  go_wp2
  go_ret
  exact ⟨ret_int (by omega), (Below.refl _ _).alloc (Nat.le_refl _) _⟩

set_option maxRecDepth 100000 in
set_option maxHeartbeats 1000000 in
theorem size_zero (kd : Int) (t : ByteArray) (sv : Value) (w : World) (ht : t.size ≤ maxLen) :
    Calls Tryd.prog 25 #[.agg #[.int .i64 kd, .string t, sv], .int .i64 0] w fun e w' => e = .returned (.int .i64 100000) ∧ Below w.heap.size w w' := by
  unfold maxLen at ht
  go_enter Tryd.func25, Tryd.ntmps25
  go_wp2
  go_ret
  exact ⟨rfl, (Below.refl _ _).alloc (Nat.le_refl _) _⟩

theorem size_any : ∀ n : Nat, n ≤ 100 → SizeOK n := by
  intro n
  induction n with
  | zero =>
    intro _ d sv w hx hs
    obtain ⟨k, t, l⟩ := d
    rw [okT_eq] at hx
    exact size_zero k t sv w hx.1
  | succ n ih =>
    intro hn d sv w hx hs
    obtain ⟨k, t, l⟩ := d
    rw [okT_eq] at hx
    simp only [Dat.kind, Dat.text, Dat.list] at hs hx ⊢
    rw [sizeD_succ, show ((n + 1 : Nat) : Int) = (n : Int) + 1 by omega]
    rcases hs.inv with ⟨rfl, a, c, rfl⟩ | ⟨b, off, cap, rs, rfl, hb, hm, h5, h6⟩
    · exact size_nil n (by omega) k t a c w hx.1
    · exact size_some n (by omega) (ih (by omega)) b off cap _ rs l k t w rfl hm hx.1 hb h5 h6 hx.2

def lightD (d : Dat) : Bool := decide (sizeD 100 d < 3000)
set_option maxRecDepth 100000 in
set_option maxHeartbeats 1000000 in
theorem light_d (d : Dat) (sv : Value) (w : World) (hx : okT d) (hs : SliceOf w (· < w.heap.size) sv d.list) :
    Calls Tryd.prog 11 #[.agg #[.int .i64 d.kind, .string d.text, sv]] w fun e w' => e = .returned (.bool (lightD d)) ∧ Below w.heap.size w w' := by
  have C := fun w' h => size_any 100 (Nat.le_refl _) d sv w' hx h
  have hle := sizeD_le 100 d
  have HC := Lib.hid C
  have HS := Lib.hid hs
  have HL : Hid (lightD d = decide (sizeD 100 d < 3000)) := rfl
  obtain ⟨k, hk⟩ : ∃ k, k = d.kind := ⟨_, rfl⟩
  obtain ⟨t, ht⟩ : ∃ t, t = d.text := ⟨_, rfl⟩
  rw [← hk, ← ht] at HC ⊢
  obtain ⟨r, hr⟩ : ∃ r, r = sizeD 100 d := ⟨_, rfl⟩
  rw [← hr] at HC hle HL
  clear C hs hk ht hr hx
  go_enter Tryd.func11, Tryd.ntmps11
  go_wp2_with fail
  refine (HC.out _ ((HS.out.under ((Below.refl _ _).alloc (Nat.le_refl _) _)).grow (by simp))).mono ?_
  rintro e w' ⟨rfl, hb⟩
  go_wp2
  go_ret
  exact ⟨ret_bool (by rw [HL.out]; simp; omega), ((Below.refl _ _).alloc (Nat.le_refl _) _).trans (hb.mono (by simp))⟩
end Go.Proofs.YtghgjefobfaodaaDoor

import Derived.Test.YtghgjefobfaodaaDoorDatE
import Derived.Test.YtghgjefobfaodaaDoorLexN
import Derived.Test.YtghgjefobfaodaaDoorBuilderK
namespace Go.Proofs.YtghgjefobfaodaaDoor
open Go.RowKit

theorem textD_len (d : Dat) : (textD d).length + 1 ≤ 4 * wt d ∧ (textsD d.list).length ≤ 4 * wts d.list := by
  induction d using dat_ind with
  | h d ih =>
    have key : ∀ l : List Dat, (∀ x ∈ l, (textD x).length + 1 ≤ 4 * wt x) → (textsD l).length ≤ 4 * wts l := by
      intro l
      induction l with
      | nil => intro _; simp [textsD, wts]
      | cons x r ihr =>
        intro h
        have h1 := h x (by simp)
        have h2 := ihr fun y hy => h y (by simp [hy])
        simp only [textsD, wts, List.length_cons, List.length_append]; omega
    have hk := key d.list fun x hx => (ih x hx).1
    refine ⟨?_, hk⟩
    rw [textD_eq, wt_eq]
    split
    · simp only [List.length_cons, List.length_append, List.length_drop, List.length_nil]; omega
    · have := spellL_len (d.kind + 3) d.text
      omega

/-- the bytes of a list so far -/
def soFar (l : List Dat) (k : Nat) : List UInt8 := 40 :: (textsD (l.take k)).drop 1
theorem soFar_zero (l : List Dat) (hk : 0 < l.length) : soFar l 1 = soFar l 0 ++ textD (l.getD 0 dat0) := by
  unfold soFar
  rw [textsD_snoc l 0 hk]
  simp [textsD]
theorem textsD_ne {l : List Dat} (h : l ≠ []) : ∃ r, textsD l = 32 :: r := by
  cases l with
  | nil => exact absurd rfl h
  | cons d r => exact ⟨_, rfl⟩
theorem soFar_succ (l : List Dat) (k : Nat) (hk : k < l.length) (h0 : k ≠ 0) : soFar l (k + 1) = (soFar l k ++ [32]) ++ textD (l.getD k dat0) := by
  unfold soFar
  rw [textsD_snoc l k hk]
  obtain ⟨r, hr⟩ := textsD_ne (l := l.take k) (by intro h; have := congrArg List.length h; rw [List.length_take, List.length_nil] at this; omega)
  rw [hr]
  simp
theorem soFar_end (d : Dat) (h : d.kind = 5) : textD d = soFar d.list d.list.length ++ [41] := by
  unfold soFar
  rw [textD_eq, if_pos h, List.take_of_length_le (Nat.le_refl _)]
  simp
theorem soFar_len (l : List Dat) (k : Nat) : (soFar l k).length ≤ 4 * wts l + 1 := by
  have h1 : ∀ m : List Dat, (textsD m).length ≤ 4 * wts m := fun m => by simpa [Dat.list] using (textD_len (.mk 0 ⟨#[]⟩ m)).2
  have h2 := h1 (l.take k)
  have h3 : wts (l.take k) + wts (l.drop k) = wts l := by rw [← wts_app, List.take_append_drop]
  unfold soFar
  simp only [List.length_cons, List.length_drop]; omega

theorem wts_take : ∀ (l : List Dat) (k : Nat), k < l.length → wts (l.take k) + wt (l.getD k dat0) ≤ wts l
  | [], k, h => by simp at h
  | d :: r, 0, _ => by simp [wts]
  | d :: r, k + 1, h => by
    have := wts_take r k (by simpa using h)
    simp only [List.take_succ_cons, wts, List.getD_cons_succ]; omega
theorem soFar_room (l : List Dat) (k : Nat) (hk : k < l.length) : (soFar l k).length + 4 * wt (l.getD k dat0) ≤ 4 * wts l + 1 := by
  have h1 : ∀ m : List Dat, (textsD m).length ≤ 4 * wts m := fun m => by simpa [Dat.list] using (textD_len (.mk 0 ⟨#[]⟩ m)).2
  have h2 := h1 (l.take k)
  have h3 := wts_take l k hk
  unfold soFar
  simp only [List.length_cons, List.length_drop]; omega

/-- the contract of write, with so many levels left -/
def WriteOK (n : Nat) : Prop := ∀ (d : Dat) (sv : Value) (B b : Nat) (bs : List UInt8) (w : World), rightD n d = true → wt d ≤ 10000 → bs.length + 4 * wt d ≤ 1000000 → B ≤ w.heap.size → SliceOf w (· < B) sv d.list → Lib.IsBuilder 54 5 B b (Lib.byteCells bs) w →
    Calls Tryd.prog 26 #[.pointer (some ⟨b, 0, none⟩), .agg #[.int .i64 d.kind, .string d.text, sv]] w fun e w' => e = .returned (.tuple #[]) ∧ Lib.IsBuilder 54 5 B b (Lib.byteCells (bs ++ textD d)) w' ∧ Below B w w' ∧ BKeep b w w'

theorem leafC_facts {d : Dat} (h : leafC d = true) : 1 ≤ d.kind ∧ d.kind ≤ 4 ∧ validT ⟨d.kind + 3, d.text, 0⟩ = true ∧ d.list = [] := by
  obtain ⟨k, t, l⟩ := d
  have e : leafC (.mk k t l) = (decide (1 ≤ k) && decide (k ≤ 4) && decide (l.length = 0) && validT ⟨k + 3, t, 0⟩ && (k != 2 || (plainC t.data.toList == t.data.toList && decide (digs t ≤ 200)))) := rfl
  rw [e] at h
  simp only [Bool.and_eq_true, decide_eq_true_eq] at h
  exact ⟨h.1.1.1.1, h.1.1.1.2, h.1.2, List.length_eq_zero_iff.1 h.1.1.2⟩

set_option maxRecDepth 100000 in
set_option maxHeartbeats 1000000 in
theorem write_leaf (k : Int) (t : ByteArray) (sv : Value) (B b : Nat) (bs : List UInt8) (w : World) (hk : 1 ≤ k) (hk' : k ≤ 4) (hv : validT ⟨k + 3, t, 0⟩ = true) (ht : t.size ≤ 10000) (hl : bs.length + 2 * t.size + 2 ≤ 1000000) (hB : B ≤ w.heap.size) (hI : Lib.IsBuilder 54 5 B b (Lib.byteCells bs) w) :
    Calls Tryd.prog 26 #[.pointer (some ⟨b, 0, none⟩), .agg #[.int .i64 k, .string t, sv]] w fun e w' => e = .returned (.tuple #[]) ∧ Lib.IsBuilder 54 5 B b (Lib.byteCells (bs ++ spellL (k + 3) t)) w' ∧ Below B w w' ∧ BKeep b w w' := by
  have hk5 : (k != 5) = true := by rw [bne_iff_ne]; omega
  have S := fun w => cspell_any k t sv hk hk' ht w
  have hS : tokS ⟨k + 3, t, 0⟩ = ⟨(spellL (k + 3) t).toArray⟩ := by unfold tokS; rw [if_pos hv]
  rw [hS] at S
  have hsl := spellL_len (k + 3) t
  obtain ⟨z, hz⟩ : ∃ z, z = spellL (k + 3) t := ⟨_, rfl⟩
  rw [← hz] at S hsl ⊢
  have W := fun w' h1 h2 => writeStringK B b (Lib.byteCells bs) ⟨z.toArray⟩ w' h1 (by rw [Lib.byteCells_length]; simp [ByteArray.size]; omega) h2
  have HS := Lib.hid S
  have HW := Lib.hid W
  have HI := Lib.hid hI
  clear S hS W hI hz hv
  go_enter Tryd.func26, Tryd.ntmps26
  go_wp2_with fail
  refine (HS.out _).mono ?_
  rintro e w' ⟨rfl, hb⟩
  have HB := Lib.hid (((Below.refl w.heap.size w).alloc (Nat.le_refl _) _).trans (hb.mono (by simp)))
  have hsz := HB.out.size
  clear hb
  go_wp2_with fail
  refine (HW.out _ (builder_below HI.out HB.out) (by omega)).mono ?_
  rintro e w2 ⟨rfl, hI2, hb2, hk2⟩
  have HI2 := Lib.hid hI2
  have HB2 := Lib.hid hb2
  have HK2 := Lib.hid ((BKeep.under b HB.out).trans hk2)
  clear hI2 hb2 hk2
  go_wp2
  first | go_end0 | refine bodyPost_ret (results_none rfl _ _ _) rfl ?_
  exact ⟨rfl, .inr (by rw [Lib.byteCells_append]; exact HI2.out), (HB.out.mono hB).trans HB2.out, HK2.out⟩

theorem isb_lt {B b : Nat} {bs : List Value} {w : World} (h : Lib.IsBuilder 54 5 B b bs w) : b < w.heap.size := by
  rcases h with h | h
  · exact h.lt
  · exact h.lt

set_option maxRecDepth 100000 in
set_option maxHeartbeats 4000000 in
theorem write_list (n : Nat) (ih : WriteOK n) (t : ByteArray) (a : Option Addr) (m cap : Nat) (l : List Dat) (B b : Nat) (bs : List UInt8) (w : World) (hr : l.all (rightD n) = true) (hm : m = l.length) (hw : wts l ≤ 10000) (hl : bs.length + 4 * wts l + 4 ≤ 1000000) (hB : B ≤ w.heap.size)
    (hs : SliceOf w (· < B) (.slice a m cap) l) (hI : Lib.IsBuilder 54 5 B b (Lib.byteCells bs) w) :
    Calls Tryd.prog 26 #[.pointer (some ⟨b, 0, none⟩), .agg #[.int .i64 5, .string t, .slice a m cap]] w fun e w' => e = .returned (.tuple #[]) ∧ Lib.IsBuilder 54 5 B b (Lib.byteCells (bs ++ (soFar l l.length ++ [41]))) w' ∧ Below B w w' ∧ BKeep b w w' := by
  have hbl := isb_lt hI
  have hml := wts_len l
  have hm2 : m ≤ 10000 := by omega
  have W1 := fun w' h1 h2 => writeByteK B b (Lib.byteCells bs) 40 w' h1 (by rw [Lib.byteCells_length]; omega) h2
  obtain ⟨w0, hw0⟩ : ∃ w0, w0 = w.alloc (.cells #[.int .i64 5, .string t, .slice a m cap] 30) := ⟨_, rfl⟩
  have hb0 : Below w.heap.size w w0 := by rw [hw0]; exact (Below.refl _ _).alloc (Nat.le_refl _) _
  have hh0 : w0.heap[w.heap.size]? = some (.cells #[.int .i64 5, .string t, .slice a m cap] 30 (0, 0)) := by rw [hw0]; exact heap_alloc_new w _
  have hz0 : w0.heap.size = w.heap.size + 1 := by rw [hw0]; simp
  have HH0 := Lib.hid hh0
  have HZ0 := Lib.hid hz0
  have HW1 := Lib.hid W1
  have HI := Lib.hid (builder_below hI hb0)
  have HB0 := Lib.hid (hb0.mono hB)
  have HK0 := Lib.hid (BKeep.under b hb0)
  have HS := Lib.hid hs
  have HM := Lib.hid hm
  have HR := Lib.hid hr
  have HIH := Lib.hid ih
  have HL := Lib.hid hl
  clear W1 hI hb0 hh0 hz0 hs hm hr ih hl
  go_enter Tryd.func26, Tryd.ntmps26
  go_wp2_with fail
  rw [← hw0]
  clear hw0
  refine (HW1.out _ HI.out (by have := HZ0.out; omega)).mono ?_
  rintro e w1 ⟨rfl, hI1, hb1, hk1⟩
  have hI1' : Lib.IsBuilder 54 5 B b (Lib.byteCells (bs ++ soFar l 0)) w1 := by
    have : bs ++ soFar l 0 = bs ++ [40] := rfl
    rw [this, Lib.byteCells_append]; exact .inr hI1
  have hc2 : w1.cell? ⟨w.heap.size, 2, none⟩ = some (.slice a m cap) := by
    rw [hk1.cell HH0.out (by decide) (by omega), Lib.cell_of_heap HH0.out]; rfl
  have HI1 := Lib.hid hI1'
  have HB1 := Lib.hid (HB0.out.trans hb1)
  have HK1 := Lib.hid (HK0.out.trans hk1)
  have hs1 : B ≤ w1.heap.size := by have := HB1.out.size; omega
  clear hI1 hI1' hb1 hk1
  by_cases hm0 : m = 0
  · have HL0 : Hid (l = []) := by show _ = _; exact List.length_eq_zero_iff.1 (by rw [← HM.out]; exact hm0)
    subst hm0
    have W2 := fun w' h1 h2 => writeByteK B b (Lib.byteCells (bs ++ soFar l 0)) 41 w' h1 (by rw [Lib.byteCells_length, List.length_append]; have := HL.out; have := soFar_len l 0; omega) h2
    have HW2 := Lib.hid W2
    clear W2
    go_wp2
    refine wp_loop_rounds 1 ?_
    rw [rounds_succ]
    go_wp2_with fail
    refine (HW2.out _ HI1.out hs1).mono ?_
    rintro e w2 ⟨rfl, hI2, hb2, hk2⟩
    have HI2 := Lib.hid hI2
    have HB2 := Lib.hid (HB1.out.trans hb2)
    have HK2 := Lib.hid (HK1.out.trans hk2)
    clear hI2 hb2 hk2
    go_wp2
    first | go_end0 | refine bodyPost_ret (results_none rfl _ _ _) rfl ?_
    refine ⟨rfl, .inr ?_, HB2.out, HK2.out⟩
    have := HI2.out
    rw [← List.append_assoc, Lib.byteCells_append]
    rw [HL0.out] at this ⊢
    exact this
  · obtain ⟨b1, off, rs, ha, hbB, hm5, h5, h6⟩ : ∃ b1 off rs, a = some ⟨b1, off, none⟩ ∧ b1 < B ∧ m ≤ maxLen ∧ Rows3 w b1 off rs ∧ RawsOf w (· < B) rs l := by
      rcases HS.out.inv with ⟨rfl, a', c', e⟩ | ⟨b', off, cap', rs, e, h1, h2, h3, h4⟩
      · exact absurd HM.out hm0
      · simp only [Value.slice.injEq] at e
        exact ⟨b', off, rs, e.1, h1, by rw [e.2.1]; exact h2, h3, h4⟩
    subst ha
    have H5 := Lib.hid h5
    have H6 := Lib.hid h6
    clear h5 h6 hm5
    go_wp2
    go_loopw [24] (fun i wr => ∃ k : Nat, k ≤ m ∧ i = .int .i64 k ∧ Hid (Lib.IsBuilder 54 5 B b (Lib.byteCells (bs ++ soFar l k)) wr) ∧ Hid (Below B w wr) ∧ Hid (BKeep b w wr) ∧ B ≤ wr.heap.size ∧ w.heap.size ≤ wr.heap.size) (fun i _ => m - (intOf i).toNat)
    case atStart => exact ⟨0, Nat.zero_le _, rfl, HI1, HB1, HK1, hs1, HB1.out.size⟩
    case round =>
      obtain ⟨k, hk, rfl, HI2, HB2, HK2, hs2, hs3⟩ := hrel
      by_cases hlt : k < m
      · have hkl : k < l.length := by rw [← HM.out]; exact hlt
        obtain ⟨sv, c0, c1, c2, hse⟩ := slice_at H5.out H6.out hbB HB2.out k hkl
        have hwk := wts_get l k hkl
        have hrd : rightD n (l.getD k dat0) = true := List.all_eq_true.1 HR.out _ (by simp [List.getD_eq_getElem?_getD, hkl])
        have hsl := soFar_room l k hkl
        have hso0 : k = 0 → soFar l (k + 1) = soFar l k ++ textD (l.getD k dat0) := fun e => by subst e; exact soFar_zero l hkl
        have hso1 : k ≠ 0 → soFar l (k + 1) = (soFar l k ++ [32]) ++ textD (l.getD k dat0) := fun e => soFar_succ l k hkl e
        obtain ⟨d, hd⟩ : ∃ d, d = l.getD k dat0 := ⟨_, rfl⟩
        rw [← hd] at c0 c1 hse hwk hrd hso0 hso1 hsl
        obtain ⟨pa, pc, hsv⟩ := hse.val
        obtain ⟨q, hq⟩ : ∃ q, q = d.list.length := ⟨_, rfl⟩
        rw [← hq] at hsv
        subst hsv
        obtain ⟨X, hX⟩ : ∃ X, X = soFar l k := ⟨_, rfl⟩
        rw [← hX] at HI2 hsl hso0 hso1
        obtain ⟨wb, hwb⟩ : ∃ wb, wb = wr.alloc (.cells #[.int .i64 d.kind, .string d.text, .slice pa q pc] 30) := ⟨_, rfl⟩
        have hbb : Below wr.heap.size wr wb := by rw [hwb]; exact (Below.refl _ _).alloc (Nat.le_refl _) _
        have hhb : wb.heap[wr.heap.size]? = some (.cells #[.int .i64 d.kind, .string d.text, .slice pa q pc] 30 (0, 0)) := by rw [hwb]; exact heap_alloc_new wr _
        have hzb : wb.heap.size = wr.heap.size + 1 := by rw [hwb]; simp
        have b0 : wb.cell? ⟨wr.heap.size, 0, none⟩ = some (.int .i64 d.kind) := by rw [Lib.cell_of_heap hhb]; rfl
        have b1' : wb.cell? ⟨wr.heap.size, 1, none⟩ = some (.string d.text) := by rw [Lib.cell_of_heap hhb]; rfl
        have b2 : wb.cell? ⟨wr.heap.size, 2, none⟩ = some (.slice pa q pc) := by rw [Lib.cell_of_heap hhb]; rfl
        have HBB := Lib.hid hbb
        have HHB := Lib.hid hhb
        have HZB := Lib.hid hzb
        have HIB := Lib.hid (builder_below HI2.out hbb)
        have HSE := Lib.hid ((hse.under (hbb.mono hs2)))
        have HB3 := Lib.hid (HB2.out.trans (hbb.mono hs2))
        have HK3 := Lib.hid (HK2.out.trans (BKeep.under b hbb))
        have hlen := HL.out
        by_cases hk0 : k = 0
        · have HSO := Lib.hid (hso0 hk0)
          have C := fun w' h1 h2 h3 => HIH.out d (.slice pa q pc) B b (bs ++ X) w' hrd (by omega) (by rw [List.length_append]; omega) h1 h2 h3
          have HC := Lib.hid C
          have hk1 : decide (0 < k) = false := by simp; omega
          have HK00 := Lib.hid hk0
          clear hk0
          clear hbb hhb hzb hso0 hso1 C hrd hse hq hd hX HI2 hsl hwk hlen
          go_wp2_with fail
          rw [← hwb]
          clear hwb c0 c1 c2
          refine (HC.out _ (by have := HZB.out; omega) HSE.out HIB.out).mono ?_
          rintro e w4 ⟨rfl, hI4, hb4, hk4⟩
          have HI4 := Lib.hid hI4
          have HB4 := Lib.hid (HB3.out.trans hb4)
          have HK4 := Lib.hid (HK3.out.trans hk4)
          have hs4 := HB4.out.size
          clear hI4 hb4 hk4
          go_wp2
          exact ⟨⟨k + 1, by omega, by go_num, by rw [HSO.out, ← List.append_assoc]; exact HI4, HB4, HK4, by omega, hs4⟩, by simp [intOf]; omega⟩
        · have HSO := Lib.hid (hso1 hk0)
          have hk1 : (0 : Int) < k := by omega
          have W2 := fun w' h1 h2 => writeByteK B b (Lib.byteCells (bs ++ X)) 32 w' h1 (by rw [Lib.byteCells_length, List.length_append]; omega) h2
          have C := fun w' h1 h2 h3 => HIH.out d (.slice pa q pc) B b ((bs ++ X) ++ [32]) w' hrd (by omega) (by simp only [List.length_append, List.length_cons, List.length_nil]; omega) h1 h2 h3
          have HC := Lib.hid C
          have HW2 := Lib.hid W2
          have HK00 := Lib.hid hk0
          clear hbb hhb hzb hso0 hso1 C W2 hrd hse hq hd hX HI2 hsl hwk hlen hk0
          go_wp2_with fail
          rw [← hwb]
          clear hwb c0 c1 c2
          refine (HW2.out _ HIB.out (by have := HZB.out; omega)).mono ?_
          rintro e w3 ⟨rfl, hI3, hb3, hk3⟩
          have e0 := (hk3.cell (o := 0) HHB.out (by decide) (by omega)).trans b0
          have e1 := (hk3.cell (o := 1) HHB.out (by decide) (by omega)).trans b1'
          have e2 := (hk3.cell (o := 2) HHB.out (by decide) (by omega)).trans b2
          have hI3' : Lib.IsBuilder 54 5 B b (Lib.byteCells ((bs ++ X) ++ [32])) w3 := by rw [Lib.byteCells_append]; exact .inr hI3
          have HI3 := Lib.hid hI3'
          have HS3 := Lib.hid (HSE.out.under hb3)
          have HB5 := Lib.hid (HB3.out.trans hb3)
          have HK5 := Lib.hid (HK3.out.trans hk3)
          have hs5 := HB5.out.size
          clear hI3 hI3' hb3 hk3 b0 b1' b2
          go_wp2_with fail
          refine (HC.out _ (by omega) HS3.out HI3.out).mono ?_
          rintro e w4 ⟨rfl, hI4, hb4, hk4⟩
          have HI4 := Lib.hid hI4
          have HB4 := Lib.hid (HB5.out.trans hb4)
          have HK4 := Lib.hid (HK5.out.trans hk4)
          have hs4 := HB4.out.size
          clear hI4 hb4 hk4
          go_wp2
          exact ⟨⟨k + 1, by omega, by go_num, by rw [HSO.out, ← List.append_assoc, ← List.append_assoc]; exact HI4, HB4, HK4, by omega, hs4⟩, by simp [intOf]; omega⟩
      · have hkm : k = l.length := by have := HM.out; omega
        have HI3 : Hid (Lib.IsBuilder 54 5 B b (Lib.byteCells (bs ++ soFar l l.length)) wr) := by
          show Lib.IsBuilder _ _ _ _ _ _
          have := HI2.out
          rwa [hkm] at this
        clear hkm
        have W2 := fun w' h1 h2 => writeByteK B b (Lib.byteCells (bs ++ soFar l l.length)) 41 w' h1 (by rw [Lib.byteCells_length, List.length_append]; have := HL.out; have := soFar_len l l.length; omega) h2
        have HW2 := Lib.hid W2
        clear W2
        go_wp2_with fail
        refine (HW2.out _ HI3.out hs2).mono ?_
        rintro e w2 ⟨rfl, hI2, hb2, hk2⟩
        have HI4 := Lib.hid hI2
        have HB4 := Lib.hid (HB2.out.trans hb2)
        have HK4 := Lib.hid (HK2.out.trans hk2)
        clear hI2 hb2 hk2
        go_wp2
        first | go_end0 | refine bodyPost_ret (results_none rfl _ _ _) rfl ?_
        refine ⟨rfl, .inr ?_, HB4.out, HK4.out⟩
        have := HI4.out
        rw [← List.append_assoc, Lib.byteCells_append]
        exact this

theorem write_any : ∀ n : Nat, WriteOK n := by
  intro n
  induction n with
  | zero =>
    intro d sv B b bs w hr hw hl hB hs hI
    obtain ⟨k, t, l⟩ := d
    have h5 : ¬ k = 5 := fun e => by
      subst e
      have : rightD 0 (.mk 5 t l) = false := rfl
      rw [this] at hr; cases hr
    have e : rightD 0 (.mk k t l) = leafC (.mk k t l) := if_neg h5
    rw [e] at hr
    obtain ⟨h1, h2, h3, h4⟩ := leafC_facts hr
    have et : textD (.mk k t l) = spellL (k + 3) t := by rw [textD_eq]; exact if_neg h5
    rw [wt_eq] at hw hl
    rw [et]
    exact write_leaf k t sv B b bs w h1 h2 h3 (by simp only [Dat.text] at hw; omega) (by simp only [Dat.text] at hl; omega) hB hI
  | succ n ih =>
    intro d sv B b bs w hr hw hl hB hs hI
    by_cases h5 : d.kind = 5
    · have e : rightD (n + 1) d = (decide (d.text.size = 0) && d.list.all (rightD n)) := if_pos h5
      rw [e, Bool.and_eq_true] at hr
      have et := soFar_end d h5
      obtain ⟨a, c, rfl⟩ := hs.val
      rw [wt_eq] at hw hl
      rw [et, h5]
      exact write_list n ih d.text a _ c d.list B b bs w hr.2 rfl (by omega) (by omega) hB hs hI
    · have e : rightD (n + 1) d = leafC d := if_neg h5
      rw [e] at hr
      obtain ⟨h1, h2, h3, h4⟩ := leafC_facts hr
      have et : textD d = spellL (d.kind + 3) d.text := by rw [textD_eq, if_neg h5]
      rw [wt_eq] at hw hl
      rw [et]
      exact write_leaf d.kind d.text sv B b bs w h1 h2 h3 (by omega) (by omega) hB hI

/-- what Print answers -/
def printS (d : Dat) : ByteArray := if rightD 60 d then ⟨(textD d).toArray⟩ else ⟨#[]⟩
def printE (d : Dat) : Int := if rightD 60 d then 0 else 1
set_option maxRecDepth 100000 in
set_option maxHeartbeats 1000000 in
theorem print_any (d : Dat) (sv : Value) (w : World) (hw : wt d ≤ 10000) (hs : SliceOf w (· < w.heap.size) sv d.list) :
    Calls Tryd.prog 12 #[.agg #[.int .i64 d.kind, .string d.text, sv]] w fun e w' => e = .returned (.tuple #[.string (printS d), .int .i64 (printE d)]) ∧ Below w.heap.size w w' := by
  have R := fun w' h => right_any d sv w' hw h
  have W := fun B b w' h1 h2 h3 h4 => write_any 60 d sv B b [] w' h1 hw (by simp; omega) h2 h3 h4
  have HS := Lib.hid hs
  have htl := (textD_len d).1
  obtain ⟨tx, htx⟩ : ∃ tx, tx = textD d := ⟨_, rfl⟩
  have hps : printS d = if rightD 60 d then ⟨tx.toArray⟩ else ⟨#[]⟩ := by rw [htx]; rfl
  have hpe : printE d = if rightD 60 d then 0 else 1 := rfl
  simp only [List.nil_append] at W
  rw [← htx] at htl W
  obtain ⟨k, hk⟩ : ∃ k, k = d.kind := ⟨_, rfl⟩
  obtain ⟨t, ht⟩ : ∃ t, t = d.text := ⟨_, rfl⟩
  rw [← hk, ← ht] at R W ⊢
  clear hk ht htx
  cases hr : rightD 60 d
  · rw [hr] at R hps hpe
    have HR := Lib.hid R
    have HPS : Hid (printS d = ⟨#[]⟩) := hps
    have HPE : Hid (printE d = 1) := hpe
    clear R W hs hps hpe hr
    go_enter Tryd.func12, Tryd.ntmps12
    go_wp2_with fail
    refine (HR.out _ ((HS.out.under ((Below.refl _ _).alloc (Nat.le_refl _) _)).grow (by simp))).mono ?_
    rintro e w' ⟨rfl, hb⟩
    have HB := Lib.hid hb
    clear hb
    go_wp2
    go_ret2
    exact ⟨by rw [HPS.out, HPE.out]; rfl, ((Below.refl _ _).alloc (Nat.le_refl _) _).trans (HB.out.mono (by simp))⟩
  · rw [hr] at R hps hpe
    have HR := Lib.hid R
    have HW : Hid _ := Lib.hid fun B b w' h2 h3 h4 => W B b w' hr h2 h3 h4
    have HPS : Hid (printS d = ⟨tx.toArray⟩) := hps
    have HPE : Hid (printE d = 0) := hpe
    have S := fun B b w' h1 h2 => Tryd.Builder_String_any B b tx w' h1 h2
    have HST := Lib.hid S
    clear R W S hs hps hpe hr
    go_enter Tryd.func12, Tryd.ntmps12
    go_wp2_with fail
    refine (HR.out _ ((HS.out.under ((Below.refl _ _).alloc (Nat.le_refl _) _)).grow (by simp))).mono ?_
    rintro e w' ⟨rfl, hb⟩
    have e0 : w'.cell? ⟨w.heap.size, 0, none⟩ = some (.int .i64 k) := (hb.cell (p := ⟨_, _, _⟩) (by simp)).trans (by simp [go_sem])
    have e1 : w'.cell? ⟨w.heap.size, 1, none⟩ = some (.string t) := (hb.cell (p := ⟨_, _, _⟩) (by simp)).trans (by simp [go_sem])
    have e2 : w'.cell? ⟨w.heap.size, 2, none⟩ = some sv := (hb.cell (p := ⟨_, _, _⟩) (by simp)).trans (by simp [go_sem])
    have HB := Lib.hid (((Below.refl w.heap.size w).alloc (Nat.le_refl _) _).trans (hb.mono (by simp)))
    have hsz := hb.size
    simp at hsz
    clear hb
    have hlt : w.heap.size < w'.heap.size := by omega
    have hne : ¬ w.heap.size = w'.heap.size := by omega
    go_wp2_with fail
    refine (HW.out w'.heap.size w'.heap.size (w'.alloc _) (by simp) ((HS.out.under (HB.out.alloc (by omega) _)).grow (by omega)) (builder_new w')).mono ?_
    rintro e w2 ⟨rfl, hI2, hb2, hk2⟩
    have HB2 := Lib.hid (((HB.out.mono (Nat.le_refl _)).alloc (by omega) _).trans (hb2.mono (by omega)))
    have HI2 := Lib.hid hI2
    have hs2 := hb2.size
    simp at hs2
    clear hI2 hb2 hk2 e0 e1 e2
    go_wp2_with fail
    refine (HST.out _ _ _ HI2.out (by omega)).mono ?_
    rintro e w3 ⟨rfl, hb3⟩
    have HB3 := Lib.hid hb3
    clear hb3
    go_wp2
    go_ret2
    exact ⟨by rw [HPS.out, HPE.out]; rfl, HB2.out.trans (HB3.out.mono (by omega))⟩
end Go.Proofs.YtghgjefobfaodaaDoor

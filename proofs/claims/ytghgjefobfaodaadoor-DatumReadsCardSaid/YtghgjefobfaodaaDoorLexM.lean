import Derived.Test.YtghgjefobfaodaaDoorLexL
namespace Go.Proofs.YtghgjefobfaodaaDoor
open Go.RowKit

/-- may a token be printed? -/
def validT (t : Tok) : Bool := readsB ⟨(spellL t.kind t.text).toArray⟩ t.kind t.text
/-- tokens, each behind a space -/
def flatT (l : List Tok) : List UInt8 := l.flatMap fun t => 32 :: spellL t.kind t.text
def textVal (l : List Tok) : Value := if l.all validT then .tuple #[.string ⟨((flatT l).drop 1).toArray⟩, .int .i64 0] else .tuple #[.string ⟨#[]⟩, .int .i64 1]
/-- few tokens, none too long -/
def Few (l : List Tok) : Prop := l.length ≤ 2000 ∧ ∀ t ∈ l, t.text.size ≤ 10000

theorem spellL_len (k : Int) (t : ByteArray) : (spellL k t).length ≤ 2 * t.size + 2 := by
  unfold spellL
  have h := escL_len t.data.toList
  have e : t.data.toList.length = t.size := Array.length_toList
  split
  · simp only [List.length_cons, List.length_append, List.length_nil]; omega
  · omega
theorem flatT_snoc (l : List Tok) (k : Nat) (h : k < l.length) : flatT (l.take (k + 1)) = flatT (l.take k) ++ 32 :: spellL (l.getD k tok0).kind (l.getD k tok0).text := by
  unfold flatT
  rw [List.take_succ_eq_append_getElem h, List.flatMap_append]
  simp [List.getD_eq_getElem?_getD, h]
theorem flatT_len {l : List Tok} (hf : Few l) (k : Nat) : (flatT (l.take k)).length ≤ 30000 * k := by
  induction k with
  | zero => simp [flatT]
  | succ k ih =>
    by_cases h : k < l.length
    · rw [flatT_snoc l k h, List.length_append, List.length_cons]
      have h1 := spellL_len (l.getD k tok0).kind (l.getD k tok0).text
      have h2 : (l.getD k tok0).text.size ≤ 10000 := hf.2 _ (by simp [List.getD_eq_getElem?_getD, h])
      omega
    · rw [List.take_of_length_le (by omega)]
      rw [List.take_of_length_le (by omega)] at ih
      omega
theorem all_take_snoc {p : Tok → Bool} (l : List Tok) (k : Nat) (h : k < l.length) : (l.take (k + 1)).all p = ((l.take k).all p && p (l.getD k tok0)) := by
  rw [List.take_succ_eq_append_getElem h, List.all_append]
  simp [List.getD_eq_getElem?_getD, h]
theorem all_not {p : Tok → Bool} (l : List Tok) (k : Nat) (h : k < l.length) (hp : p (l.getD k tok0) = false) : l.all p = false := by
  rw [List.all_eq_false]
  exact ⟨l[k], List.getElem_mem h, by simpa [List.getD_eq_getElem?_getD, h] using hp⟩

theorem spell_any (k p : Int) (t : ByteArray) (ht : t.size ≤ 100000) (w : World) :
    Calls Tryd.prog 66 #[.agg #[.int .i64 k, .string t, .int .i64 p]] w fun e w' => e = .returned (.string ⟨(spellL k t).toArray⟩) ∧ Below w.heap.size w w' := by
  by_cases h : k = 6
  · subst h; exact spell_str p t ht w
  · have : (⟨(spellL k t).toArray⟩ : ByteArray) = t := by unfold spellL; rw [if_neg h]
    rw [this]
    exact spell_word k p t (by simpa using h) w

theorem byteCells_str (s : ByteArray) : Lib.byteCells s.data.toList = Lib.strCells s := rfl

theorem few_get {l : List Tok} (hf : Few l) (k : Nat) (h : k < l.length) : (l.getD k tok0).text.size ≤ 10000 := hf.2 _ (by simp [List.getD_eq_getElem?_getD, h])

set_option maxRecDepth 100000 in
set_option maxHeartbeats 2000000 in
theorem text_some (b off cap : Nat) (l : List Tok) (hf : Few l) (w : World) (hb : b < w.heap.size)
    (hc : ∀ j, j < l.length → w.cell? ⟨b, off + j * 3, none⟩ = some (.int .i64 (l.getD j tok0).kind) ∧ w.cell? ⟨b, off + j * 3 + 1, none⟩ = some (.string (l.getD j tok0).text) ∧ w.cell? ⟨b, off + j * 3 + 2, none⟩ = some (.int .i64 (l.getD j tok0).pos)) :
    Calls Tryd.prog 58 #[.slice (some ⟨b, off, none⟩) l.length cap] w fun e w' => e = .returned (textVal l) ∧ Below w.heap.size w w' := by
  have hll := hf.1
  have HC := Lib.hid hc
  have HF := Lib.hid hf
  have HBN := Lib.hid (builder_new w)
  clear hc hf
  obtain ⟨n, hn⟩ : ∃ n, n = l.length := ⟨_, rfl⟩
  rw [← hn] at hll ⊢
  have HN := Lib.hid hn
  clear hn
  go_enter Tryd.func58, Tryd.ntmps58
  go_wp2
  obtain ⟨w0, hw0⟩ : ∃ w0, w0 = w.alloc (.cells #[.pointer none, .slice none 0 0] 54) := ⟨_, rfl⟩
  have HI0 := Lib.hid HBN.out
  rw [← hw0] at HI0
  have hb0 : Below w.heap.size w w0 := by rw [hw0]; exact (Below.refl _ _).alloc (Nat.le_refl _) _
  have hs0 := hb0.size
  rw [← hw0]
  have HB0 := Lib.hid hb0
  clear hw0 hb0 HBN
  go_loopw [10] (fun i wr => ∃ k : Nat, k ≤ n ∧ i = .int .i64 k ∧ Hid ((l.take k).all validT = true) ∧ Hid (Lib.IsBuilder 54 5 w.heap.size w.heap.size (Lib.byteCells ((flatT (l.take k)).drop 1)) wr) ∧ Hid (Below w.heap.size w wr) ∧ w.heap.size ≤ wr.heap.size) (fun i _ => n - (intOf i).toNat)
  case atStart => exact ⟨0, Nat.zero_le _, rfl, Lib.hid rfl, HI0, HB0, hs0⟩
  case round =>
    obtain ⟨k, hk, rfl, HA, HI, HB, hsz⟩ := hrel
    by_cases hlt : k < n
    · have hkl : k < l.length := by rw [← HN.out]; exact hlt
      obtain ⟨u, hu⟩ : ∃ u, u = l.getD k tok0 := ⟨_, rfl⟩
      have hcs := HC.out k hkl
      rw [← hu] at hcs
      obtain ⟨g0, g1, g2⟩ := hcs
      have c0 := (HB.out.cell (p := ⟨b, _, none⟩) hb).trans g0
      have c1 := (HB.out.cell (p := ⟨b, _, none⟩) hb).trans g1
      have c2 := (HB.out.cell (p := ⟨b, _, none⟩) hb).trans g2
      have HU := Lib.hid hu
      clear g0 g1 g2 hu
      have hul : u.text.size ≤ 10000 := by rw [HU.out]; exact few_get HF.out k hkl
      have S := fun w' => spell_any u.kind u.pos u.text (by omega) w'
      obtain ⟨sp, hsp⟩ : ∃ sp : ByteArray, sp = ⟨(spellL u.kind u.text).toArray⟩ := ⟨_, rfl⟩
      rw [← hsp] at S
      have hspl : sp.size ≤ 30000 := by
        have := spellL_len u.kind u.text
        rw [hsp]; show (spellL u.kind u.text).toArray.size ≤ _
        simp; omega
      have R := fun w' => readsAs_any sp (by omega) u.kind u.pos u.text w'
      have hv : readsB sp u.kind u.text = validT u := by rw [hsp]; rfl
      rw [hv] at R
      have HS := Lib.hid S
      have HR := Lib.hid R
      have HSP := Lib.hid hsp
      clear S R hv hsp hul
      go_wp2_with fail
      refine (HS.out _).mono ?_
      rintro e w1 ⟨rfl, hb1⟩
      have HB1 := Lib.hid hb1
      have hs1 := hb1.size
      have kc := bcell hb1
      obtain ⟨kc, kf⟩ := kc
      clear hb1
      cases hvu : validT u
      · have hno : textVal l = .tuple #[.string ⟨#[]⟩, .int .i64 1] := by
          unfold textVal
          rw [all_not l k hkl (by rw [← HU.out]; exact hvu)]
          rfl
        have HNO := Lib.hid hno
        clear hno
        go_wp2_with fail
        refine (HR.out _).mono ?_
        rintro e w2 ⟨rfl, hb2⟩
        rw [hvu]
        have HB2 := Lib.hid hb2
        have hs2 := hb2.size
        clear hb2
        go_wp2
        go_ret2
        refine ⟨ret_eq HNO.out.symm, ?_⟩
        have hA : Below w.heap.size w (wr.alloc (.cells #[.int .i64 u.kind, .string u.text, .int .i64 u.pos] 61)) := HB.out.alloc hsz _
        have hB := hA.trans (HB1.out.mono (by simp; omega))
        exact hB.trans (HB2.out.mono (by have := HB1.out.size; simp at this; omega))
      · have HA2 : Hid ((l.take (k + 1)).all validT = true) := by
          show _ = _
          rw [all_take_snoc l k hkl, HA.out, ← HU.out, hvu]; rfl
        have hfl := flatT_len HF.out k
        obtain ⟨X, hX⟩ : ∃ X, X = (flatT (l.take k)).drop 1 := ⟨_, rfl⟩
        have hXl : X.length ≤ 60000000 := by rw [hX, List.length_drop]; have : 30000 * k ≤ 30000 * 2000 := Nat.mul_le_mul_left _ (by omega); omega
        have hsn := flatT_snoc l k hkl
        rw [← HU.out] at hsn
        have hX2 : (flatT (l.take (k + 1))).drop 1 = (if k = 0 then [] else X ++ [32]) ++ sp.data.toList := by
          rw [hsn, hX, HSP.out]
          by_cases h0 : k = 0
          · subst h0; simp [flatT]
          · rw [if_neg h0]
            obtain ⟨a, r, har⟩ : ∃ a r, flatT (l.take k) = a :: r := by
              obtain ⟨j, rfl⟩ : ∃ j, k = j + 1 := ⟨k - 1, by omega⟩
              rw [flatT_snoc l j (by omega)]
              cases hh : flatT (l.take j) with
              | nil => exact ⟨_, _, rfl⟩
              | cons a r => exact ⟨a, r ++ _, rfl⟩
            rw [har]
            simp
        rw [← hX] at HI
        have HX2 := Lib.hid hX2
        have HX := Lib.hid hX
        clear hsn hX hX2 hfl HA
        go_wp2_with fail
        refine (HR.out _).mono ?_
        rintro e w2 ⟨rfl, hb2⟩
        rw [hvu]
        have hA : Below w.heap.size w (wr.alloc (.cells #[.int .i64 u.kind, .string u.text, .int .i64 u.pos] 61)) := HB.out.alloc hsz _
        have hAw := (Below.refl wr.heap.size wr).alloc (Nat.le_refl _) (.cells #[.int .i64 u.kind, .string u.text, .int .i64 u.pos] 61)
        have hw2 : Below wr.heap.size wr w2 := (hAw.trans (HB1.out.mono (by simp))).trans (hb2.mono (by have := HB1.out.size; simp at this; omega))
        have HBx := Lib.hid (HB.out.trans (hw2.mono hsz))
        have hI2 := Lib.hid (builder_below HI.out hw2)
        have hs2 : w.heap.size ≤ w2.heap.size := Nat.le_trans hsz hw2.size
        clear hb2 hA hAw hw2 kc kf
        by_cases h0 : k = 0
        · have HY : Hid ((flatT (l.take (k + 1))).drop 1 = [] ++ sp.data.toList) := by show _ = _; rw [HX2.out, if_pos h0]
          have hX0 : X = [] := by rw [HX.out, h0]; rfl
          have hk0 : ¬ (0 < (k : Int)) := by omega
          have W2 := fun w' h1 h2 => writeString w.heap.size w.heap.size (Lib.byteCells []) sp w' h1 (by simp [Lib.byteCells]; omega) h2
          have HW2 := Lib.hid W2
          rw [hX0] at hI2
          clear W2 hX0
          go_wp2_with fail
          refine (HW2.out _ hI2.out (by omega)).mono ?_
          rintro e w4 ⟨rfl, hI4, hb4⟩
          have HI4 := Lib.hid hI4
          have HB4 := Lib.hid hb4
          have hs4 := hb4.size
          clear hI4 hb4
          go_wp2
          go_roundw
          case rel => exact ⟨k + 1, by omega, by go_num, HA2, Lib.hid (by rw [HY.out, Lib.byteCells_append, byteCells_str]; exact .inr HI4.out), Lib.hid (HBx.out.trans HB4.out), by omega⟩
          case measure => simp [intOf]; omega
        · have HY : Hid ((flatT (l.take (k + 1))).drop 1 = (X ++ [32]) ++ sp.data.toList) := by show _ = _; rw [HX2.out, if_neg h0]
          have hk0 : 0 < (k : Int) := by omega
          have W := writeByte w.heap.size w.heap.size (Lib.byteCells X) 32 w2 hI2.out (by rw [Lib.byteCells_length]; omega) hs2
          have HW := Lib.hid W
          have W2 := fun w' h1 h2 => writeString w.heap.size w.heap.size (Lib.byteCells (X ++ [32])) sp w' h1 (by rw [Lib.byteCells_length]; simp; omega) h2
          have HW2 := Lib.hid W2
          clear W W2
          go_wp2_with fail
          refine HW.out.mono ?_
          rintro e w3 ⟨rfl, hI3, hb3⟩
          have hI3' : Lib.IsBuilder 54 5 w.heap.size w.heap.size (Lib.byteCells (X ++ [32])) w3 := by rw [Lib.byteCells_append]; exact .inr hI3
          have HI3 := Lib.hid hI3'
          have HB3 := Lib.hid hb3
          have hs3 := hb3.size
          clear hI3 hb3 hI3'
          go_wp2_with fail
          refine (HW2.out _ HI3.out (by omega)).mono ?_
          rintro e w4 ⟨rfl, hI4, hb4⟩
          have HI4 := Lib.hid hI4
          have HB4 := Lib.hid hb4
          have hs4 := hb4.size
          clear hI4 hb4
          go_wp2
          go_roundw
          case rel => exact ⟨k + 1, by omega, by go_num, HA2, Lib.hid (by rw [HY.out, Lib.byteCells_append, byteCells_str]; exact .inr HI4.out), Lib.hid ((HBx.out.trans HB3.out).trans HB4.out), by omega⟩
          case measure => simp [intOf]; omega
    · have hkn : k = n := by omega
      have HV : Hid (textVal l = .tuple #[.string ⟨((flatT l).drop 1).toArray⟩, .int .i64 0]) := by
        show _ = _
        have ha := HA.out
        rw [List.take_of_length_le (by rw [← HN.out]; omega)] at ha
        unfold textVal
        rw [ha]; rfl
      have hI := HI.out
      rw [List.take_of_length_le (by rw [← HN.out]; omega)] at hI
      obtain ⟨Z, hZ⟩ : ∃ Z, Z = (flatT l).drop 1 := ⟨_, rfl⟩
      rw [← hZ] at hI HV
      have HS := Lib.hid (Tryd.Builder_String_any w.heap.size w.heap.size Z wr hI hsz)
      clear hI hkn hZ
      go_wp2_with fail
      refine HS.out.mono ?_
      rintro e w4 ⟨rfl, hb4⟩
      have HB4 := Lib.hid hb4
      clear hb4
      go_wp2
      go_ret2
      exact ⟨ret_eq HV.out.symm, HB.out.trans HB4.out⟩
end Go.Proofs.YtghgjefobfaodaaDoor

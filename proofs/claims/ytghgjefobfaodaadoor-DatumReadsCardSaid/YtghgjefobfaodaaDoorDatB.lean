import Derived.Test.YtghgjefobfaodaaDoorDatA
import Derived.Test.YtghgjefobfaodaaDoorLexN
namespace Go.Proofs.YtghgjefobfaodaaDoor
open Go.RowKit

theorem trim45 (l : List UInt8) : Lib.trimPrefix l [45] = if l.head? = some 45 then l.tail else l := by
  unfold Lib.trimPrefix Lib.hasPrefix
  cases l with
  | nil => simp
  | cons c r =>
    by_cases h : c = 45
    · subst h; simp
    · simp [h, Ne.symm h]
theorem has45 (l : List UInt8) : Lib.hasPrefix l [45] = decide (l.head? = some 45) := by
  unfold Lib.hasPrefix
  cases l with
  | nil => simp
  | cons c r =>
    by_cases h : c = 45
    · subst h; simp
    · have : ([45] : List UInt8).isPrefixOf (c :: r) = false := by simp [List.isPrefixOf, Ne.symm h]
      simp [h, this]
theorem digs_eq (s : ByteArray) : (Lib.trimPrefix s.data.toList [45]).length = digs s := by
  rw [trim45]
  unfold digs
  have e : s.data.toList.length = s.size := Array.length_toList
  split
  · rw [List.length_tail]; omega
  · exact e
theorem digs_le (s : ByteArray) : digs s ≤ s.size := by unfold digs; split <;> omega

set_option maxRecDepth 100000 in
set_option maxHeartbeats 1000000 in
theorem digitsOf_any (s : ByteArray) (w : World) :
    Calls Tryd.prog 62 #[.string s] w fun e w' => e = .returned (.int .i64 (digs s : Nat)) ∧ w = w' := by
  have T := fun w => Tryd.strings_TrimPrefix s ⟨#[45]⟩ w
  obtain ⟨t, ht⟩ : ∃ t, t = Lib.trimPrefix s.data.toList [45] := ⟨_, rfl⟩
  have hl : t.length = digs s := by rw [ht]; exact digs_eq s
  have ht2 : Lib.trimPrefix s.data.toList (⟨#[45]⟩ : ByteArray).data.toList = t := ht.symm
  rw [ht2] at T
  have HT := Lib.hid T
  have HL := Lib.hid hl
  clear T hl ht ht2
  go_enter Tryd.func62, Tryd.ntmps62
  go_wp2_with fail
  refine (HT.out _).mono ?_
  rintro e w' ⟨rfl, rfl⟩
  go_wp2
  go_ret
  exact ⟨ret_int (by rw [← HL.out]), rfl⟩

set_option maxRecDepth 100000 in
set_option maxHeartbeats 1000000 in
theorem codePlain_any (s : ByteArray) (hs : s.size ≤ 300000) (w : World) :
    Calls Tryd.prog 61 #[.string s] w fun e w' => e = .returned (.string ⟨(plainC s.data.toList).toArray⟩) ∧ w = w' := by
  have T := fun w => Tryd.strings_CutPrefix s ⟨#[45]⟩ w
  have T : ∀ w : World, Calls Tryd.prog 69 #[.string s, .string ⟨#[45]⟩] w fun e w' => e = .returned (.tuple #[.string ⟨(Lib.trimPrefix s.data.toList [45]).toArray⟩, .bool (Lib.hasPrefix s.data.toList [45])]) ∧ w' = w := T
  rw [trim45, has45] at T
  obtain ⟨v, hv⟩ : ∃ v, v = if s.data.toList.head? = some 45 then s.data.toList.tail else s.data.toList := ⟨_, rfl⟩
  rw [← hv] at T
  have L := fun w => Tryd.strings_TrimLeft_one ⟨v.toArray⟩ 48 (by decide) w
  obtain ⟨z, hz⟩ : ∃ z, z = v.dropWhile (· == 48) := ⟨_, rfl⟩
  have hzz : Lib.trimLeftB (⟨v.toArray⟩ : ByteArray).data.toList 48 = z := by rw [hz]; rfl
  rw [hzz] at L
  have hP : plainC s.data.toList = if z = [] then [48] else if s.data.toList.head? = some 45 then 45 :: z else z := by
    unfold plainC; simp only [← hv, ← hz]
  have hzl : z.length ≤ 300000 := by
    have h1 : z.length ≤ v.length := by rw [hz]; exact (List.dropWhile_sublist _).length_le
    have h2 : v.length ≤ s.size := by
      have e : s.data.toList.length = s.size := Array.length_toList
      rw [hv]; split
      · rw [List.length_tail]; omega
      · omega
    omega
  have HP := Lib.hid hP
  have HT := Lib.hid T
  have HL := Lib.hid L
  clear T L hP hzz hz hv
  by_cases hz0 : z = []
  · subst hz0
    go_enter Tryd.func61, Tryd.ntmps61
    go_wp2_with fail
    refine (HT.out _).mono ?_
    rintro e w' ⟨rfl, rfl⟩
    go_wp2_with fail
    refine (HL.out _).mono ?_
    rintro e w' ⟨rfl, rfl⟩
    go_wp2
    go_ret
    exact ⟨by rw [HP.out]; rfl, rfl⟩
  · have hze : z.isEmpty = false := by simpa using hz0
    by_cases h45 : s.data.toList.head? = some 45
    · have HP2 : Hid (plainC s.data.toList = 45 :: z) := by show _ = _; rw [HP.out, if_neg hz0, if_pos h45]
      have HT2 : Hid (∀ w : World, Calls Tryd.prog 69 #[.string s, .string ⟨#[45]⟩] w fun e w' => e = .returned (.tuple #[.string ⟨v.toArray⟩, .bool true]) ∧ w' = w) := by
        show ∀ w : World, _
        have := HT.out
        rw [decide_eq_true h45] at this
        exact this
      clear HT HP h45 hz0
      go_enter Tryd.func61, Tryd.ntmps61
      go_wp2_with fail
      refine (HT2.out _).mono ?_
      rintro e w' ⟨rfl, rfl⟩
      go_wp2_with fail
      refine (HL.out _).mono ?_
      rintro e w' ⟨rfl, rfl⟩
      go_wp2
      go_ret
      exact ⟨by rw [HP2.out]; rfl, rfl⟩
    · have HP2 : Hid (plainC s.data.toList = z) := by show _ = _; rw [HP.out, if_neg hz0, if_neg h45]
      have HT2 : Hid (∀ w : World, Calls Tryd.prog 69 #[.string s, .string ⟨#[45]⟩] w fun e w' => e = .returned (.tuple #[.string ⟨v.toArray⟩, .bool false]) ∧ w' = w) := by
        show ∀ w : World, _
        have := HT.out
        rw [decide_eq_false h45] at this
        exact this
      clear HT HP h45 hz0
      go_enter Tryd.func61, Tryd.ntmps61
      go_wp2_with fail
      refine (HT2.out _).mono ?_
      rintro e w' ⟨rfl, rfl⟩
      go_wp2_with fail
      refine (HL.out _).mono ?_
      rintro e w' ⟨rfl, rfl⟩
      go_wp2
      go_ret
      exact ⟨by rw [HP2.out]; rfl, rfl⟩
end Go.Proofs.YtghgjefobfaodaaDoor

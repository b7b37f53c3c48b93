import Derived.Test.YtghgjefobfaodaaDoorDatB
namespace Go.Proofs.YtghgjefobfaodaaDoor
open Go.RowKit

theorem head_some (s : ByteArray) (h : 0 < s.size) : s.data.toList.head? = some s[0] ∧ s.data.toList.tail = s.data.toList.drop 1 := by
  have := drop_cons s 0 h
  rw [List.drop_zero] at this
  rw [this]; exact ⟨rfl, rfl⟩
theorem head_none (s : ByteArray) (h : ¬ 0 < s.size) : s.data.toList = [] := by
  have := drop_none s 0 h
  rwa [List.drop_zero] at this
theorem ext_tail (s : ByteArray) : (s.extract 1 s.size).data.toList = s.data.toList.drop 1 := by
  rw [Lib.extract_data]
  refine List.take_of_length_le ?_
  rw [List.length_drop]
  have e : s.data.toList.length = s.size := Array.length_toList
  omega

set_option maxRecDepth 100000 in
set_option maxHeartbeats 1000000 in
theorem refDigits_any (s : ByteArray) (hs : s.size ≤ 100000) (w : World) :
    Calls Tryd.prog 23 #[.string s] w fun e w' => e = .returned (.int .i64 (digs s : Nat)) ∧ w = w' := by
  by_cases h0 : 0 < s.size
  · obtain ⟨hh, _⟩ := head_some s h0
    have e45 : ((s[0].toNat : Int) == 45) = decide (s[0] = 45) := u8_eq _ 45
    by_cases h45 : s[0] = 45
    · rw [decide_eq_true h45] at e45
      have HD : Hid (digs s = s.size - 1) := by show _ = _; unfold digs; rw [hh, h45, if_pos rfl]
      clear hh h45
      go_enter Tryd.func23, Tryd.ntmps23
      go_wp2
      go_ret
      exact ⟨ret_int (by rw [HD.out]; omega), rfl⟩
    · rw [decide_eq_false h45] at e45
      have HD : Hid (digs s = s.size) := by show _ = _; unfold digs; rw [hh, if_neg (by simpa using h45)]
      clear hh h45
      go_enter Tryd.func23, Tryd.ntmps23
      go_wp2
      go_ret
      exact ⟨ret_int (by rw [HD.out]), rfl⟩
  · have HD : Hid (digs s = s.size) := by show _ = _; unfold digs; rw [head_none s h0]; rfl
    go_enter Tryd.func23, Tryd.ntmps23
    go_wp2
    go_ret
    exact ⟨ret_int (by rw [HD.out]), rfl⟩

theorem strip_short {l : List UInt8} (h : l.length ≤ 1) : stripR l = l := by
  match l, h with
  | [], _ => rfl
  | [c], _ => rfl
theorem strip_cons {l : List UInt8} (h : 1 < l.length) : stripR l = if l.head? = some 48 then stripR (l.drop 1) else l := by
  match l, h with
  | c :: d :: r, _ =>
    simp only [stripR, List.head?_cons, Option.some.injEq, List.drop_succ_cons, List.drop_zero]

def strLen : Value → Nat
  | .string s => s.size
  | _ => 0
theorem str_isb (X : ByteArray) : (X.toList == [48]) = decide (X.data.toList = [48]) := by
  rw [Lib.toList_data, Bool.eq_iff_iff]; simp

/-- a round of the document's plain: what is left -/
theorem strip_round (X : ByteArray) (R : List UInt8) (h : stripR X.data.toList = R) :
    (1 < X.size ∧ ((X[0]!.toNat : Int) == 48) = true ∧ stripR (X.extract 1 X.size).data.toList = R) ∨ (1 < X.size ∧ ((X[0]!.toNat : Int) == 48) = false ∧ X.data.toList = R) ∨ (X.size ≤ 1 ∧ X.data.toList = R) := by
  have e : X.data.toList.length = X.size := Array.length_toList
  by_cases h1 : 1 < X.size
  · obtain ⟨kh, kt⟩ := head_some X (by omega)
    have e0 : X[0]! = X[0] := getElem!_pos X 0 (by omega)
    have e48 : ((X[0].toNat : Int) == 48) = decide (X[0] = 48) := u8_eq _ 48
    have hst := strip_cons (l := X.data.toList) (by omega)
    rw [kh] at hst
    by_cases h48 : X[0] = 48
    · rw [h48, if_pos rfl, h] at hst
      exact .inl ⟨h1, by rw [e0, e48, decide_eq_true h48], by rw [ext_tail, ← hst]⟩
    · rw [if_neg (by simpa using h48), h] at hst
      exact .inr (.inl ⟨h1, by rw [e0, e48, decide_eq_false h48], hst.symm⟩)
  · exact .inr (.inr ⟨by omega, by rw [← h, strip_short (by omega)]⟩)

theorem cons45 (X : ByteArray) : ((⟨#[45]⟩ : ByteArray) ++ X) = ⟨(45 :: X.data.toList).toArray⟩ := by
  refine ba_ext ?_
  rw [Go.Joins.data_append]
  rfl
theorem minus_yes {X : ByteArray} (h : (!X.toList == [48]) = true) : (if X.data.toList = [48] then X.data.toList else 45 :: X.data.toList) = 45 :: X.data.toList := by
  rw [str_isb] at h
  rw [if_neg (by simpa using h)]
theorem minus_no {X : ByteArray} (h : (!X.toList == [48]) = false) : (if X.data.toList = [48] then X.data.toList else 45 :: X.data.toList) = X.data.toList := by
  rw [str_isb] at h
  rw [if_pos (by simpa using h)]

set_option maxRecDepth 100000 in
set_option maxHeartbeats 4000000 in
theorem refPlain_any (s : ByteArray) (hs : s.size ≤ 100000) (w : World) :
    Calls Tryd.prog 24 #[.string s] w fun e w' => e = .returned (.string ⟨(plainR s.data.toList).toArray⟩) ∧ w = w' := by
  by_cases h0 : 0 < s.size
  · obtain ⟨hh, ht⟩ := head_some s h0
    have e45 : ((s[0].toNat : Int) == 45) = decide (s[0] = 45) := u8_eq _ 45
    by_cases h45 : s[0] = 45
    · obtain ⟨R, hR⟩ : ∃ R, R = stripR s.data.toList.tail := ⟨_, rfl⟩
      have HP : Hid (plainR s.data.toList = if R = [48] then R else 45 :: R) := by show _ = _; unfold plainR; rw [hh, h45, if_pos rfl, ← hR]
      have HE : Hid (stripR (s.extract 1 s.size).data.toList = R) := by show _ = _; rw [ext_tail, ← ht, hR]
      rw [decide_eq_true h45] at e45
      clear hh ht h45 hR
      go_enter Tryd.func24, Tryd.ntmps24
      go_wp2
      go_loop [0] (fun x => ∃ X : ByteArray, X.size ≤ 100000 ∧ x = .string X ∧ Hid (stripR X.data.toList = R)) (fun x => strLen x)
      case atStart => exact ⟨_, by simp [ByteArray.size_extract]; omega, rfl, HE⟩
      case round =>
        obtain ⟨X, hX, rfl, HX⟩ := hrel
        rcases strip_round X R HX.out with ⟨h1, e48, hr⟩ | ⟨h1, e48, hr⟩ | ⟨h1, hr⟩
        · have HR := Lib.hid hr
          clear hr HX
          have e0 : X[0]! = X[0] := getElem!_pos X 0 (by omega)
          rw [e0] at e48
          clear e0
          go_wp2
          go_round
          case rel => exact ⟨_, by simp [ByteArray.size_extract]; omega, rfl, HR⟩
          case measure => simp [strLen, ByteArray.size_extract]; omega
        · have e0 : X[0]! = X[0] := getElem!_pos X 0 (by omega)
          rw [e0] at e48
          subst hr
          clear HX e0
          go_wp2
          all_goals
            go_ret
            refine ⟨?_, rfl⟩
            first
            | (rw [HP.out, minus_yes (by assumption), ← cons45]; rfl)
            | (rw [HP.out, minus_no (by assumption)]; rfl)
        · subst hr
          clear HX
          go_wp2
          all_goals
            go_ret
            refine ⟨?_, rfl⟩
            first
            | (rw [HP.out, minus_yes (by assumption), ← cons45]; rfl)
            | (rw [HP.out, minus_no (by assumption)]; rfl)
    · obtain ⟨R, hR⟩ : ∃ R, R = stripR s.data.toList := ⟨_, rfl⟩
      have HP : Hid (plainR s.data.toList = R) := by show _ = _; unfold plainR; rw [hh, if_neg (by simpa using h45), ← hR]
      have HE : Hid (stripR s.data.toList = R) := hR.symm
      rw [decide_eq_false h45] at e45
      clear hh ht h45 hR
      go_enter Tryd.func24, Tryd.ntmps24
      go_wp2
      go_loop [0] (fun x => ∃ X : ByteArray, X.size ≤ 100000 ∧ x = .string X ∧ Hid (stripR X.data.toList = R)) (fun x => strLen x)
      case atStart => exact ⟨_, hs, rfl, HE⟩
      case round =>
        obtain ⟨X, hX, rfl, HX⟩ := hrel
        rcases strip_round X R HX.out with ⟨h1, e48, hr⟩ | ⟨h1, e48, hr⟩ | ⟨h1, hr⟩
        · have HR := Lib.hid hr
          clear hr HX
          have e0 : X[0]! = X[0] := getElem!_pos X 0 (by omega)
          rw [e0] at e48
          clear e0
          go_wp2
          go_round
          case rel => exact ⟨_, by simp [ByteArray.size_extract]; omega, rfl, HR⟩
          case measure => simp [strLen, ByteArray.size_extract]; omega
        · have e0 : X[0]! = X[0] := getElem!_pos X 0 (by omega)
          rw [e0] at e48
          subst hr
          clear HX e0
          go_wp2
          go_ret
          exact ⟨by rw [HP.out]; rfl, rfl⟩
        · subst hr
          clear HX
          go_wp2
          go_ret
          exact ⟨by rw [HP.out]; rfl, rfl⟩
  · have HP : Hid (plainR s.data.toList = []) := by show _ = _; rw [head_none s h0]; rfl
    have HS : Hid (s = ⟨#[]⟩) := by show _ = _; exact ba_ext (by rw [head_none s h0])
    go_enter Tryd.func24, Tryd.ntmps24
    go_wp2
    refine wp_loop_rounds 1 ?_
    rw [rounds_succ]
    go_wp2
    go_ret
    exact ⟨by rw [HP.out, HS.out]; rfl, rfl⟩
end Go.Proofs.YtghgjefobfaodaaDoor

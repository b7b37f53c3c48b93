import Derived.Test.YtibhfcnjmilepaaDoorRows
import Derived.Test.YtibhfcnjmilepaaDoorNumP
import Derived.WalkKit
import Derived.WalkSpells
import Derived.WalkLawsBesides
import Derived.BigQuiet
import Derived.Deep.QuietTactic
import Derived.Outline
import Derived.Lib.Hide
import Derived.Lib.Bytealg
import Derived.Lib.IndexBytes
namespace Go.Proofs.YtibhfcnjmilepaaDoor
open Go.RowKit

theorem ret_bool {a b : Bool} (h : a = b) : Ending.returned (.bool a) = .returned (.bool b) := by rw [h]
theorem ret_int {k : IntKind} {a b : Int} (h : a = b) : Ending.returned (.int k a) = .returned (.int k b) := by rw [h]
theorem ret_str {a b : ByteArray} (h : a = b) : Ending.returned (.string a) = .returned (.string b) := by rw [h]
theorem ba_ext {a b : ByteArray} (h : a.data.toList = b.data.toList) : a = b := by
  cases a; cases b; congr; exact Array.toList_inj.1 h
theorem ba_mk (l : List UInt8) : (⟨l.toArray⟩ : ByteArray).data.toList = l := rfl
theorem ba_size (l : List UInt8) : (⟨l.toArray⟩ : ByteArray).size = l.length := by simp [ByteArray.size]
theorem ba_self (s : ByteArray) : (⟨s.data.toList.toArray⟩ : ByteArray) = s := by cases s; simp
theorem u8_eq (c d : UInt8) : ((c.toNat : Int) == (d.toNat : Int)) = decide (c = d) := by
  rw [Bool.eq_iff_iff]; simp [← UInt8.toNat_inj]; omega
theorem drop_cons (s : ByteArray) (k : Nat) (h : k < s.size) : s.data.toList.drop k = s[k] :: s.data.toList.drop (k + 1) := by
  rw [List.drop_eq_getElem_cons (by simpa using h)]; rfl
theorem head_some (s : ByteArray) (h : 0 < s.size) : s.data.toList.head? = some s[0] := by
  have := drop_cons s 0 h
  rw [List.drop_zero] at this
  rw [this]; rfl
theorem ext_tail (s : ByteArray) : (s.extract 1 s.size).data.toList = s.data.toList.drop 1 := by
  rw [Lib.extract_data]
  refine List.take_of_length_le ?_
  rw [List.length_drop]
  have e : s.data.toList.length = s.size := Array.length_toList
  omega
theorem ba_len (s : ByteArray) : s.data.toList.length = s.size := Array.length_toList
/-- the i-th digit, from the lowest on -/
def dgt (n i : Nat) : Nat := n / 10 ^ i % 10
theorem dgt_lt (n i : Nat) : dgt n i < 10 := Nat.mod_lt _ (by omega)
def strLen : Value → Nat
  | .string s => s.size
  | _ => 0
theorem trimL_short {l : List UInt8} (h : l.length = 1) : trimL l = l := by
  match l, h with
  | [c], _ => rfl
theorem trimL_cons {l : List UInt8} (h : 1 < l.length) : trimL l = if l.head? = some 48 then trimL (l.drop 1) else l := by
  match l, h with
  | c :: d :: r, _ =>
    simp only [trimL, List.head?_cons, Option.some.injEq, List.drop_succ_cons, List.drop_zero]
/-- a round of the document's trim: what is left -/
theorem trim_round (X : ByteArray) (R : List UInt8) (h : trimL X.data.toList = R) :
    (1 < X.size ∧ ((X[0]!.toNat : Int) == 48) = true ∧ trimL (X.extract 1 X.size).data.toList = R) ∨ (1 < X.size ∧ ((X[0]!.toNat : Int) == 48) = false ∧ X.data.toList = R) ∨ (X.size = 1 ∧ X.data.toList = R) ∨ (X.size = 0 ∧ R = [48]) := by
  have e := ba_len X
  by_cases h1 : 1 < X.size
  · have kh := head_some X (by omega)
    have e0 : X[0]! = X[0] := getElem!_pos X 0 (by omega)
    have e48 : ((X[0].toNat : Int) == 48) = decide (X[0] = 48) := u8_eq _ 48
    have hst := trimL_cons (l := X.data.toList) (by omega)
    rw [kh] at hst
    by_cases h48 : X[0] = 48
    · rw [h48, if_pos rfl, h] at hst
      exact .inl ⟨h1, by rw [e0, e48, decide_eq_true h48], by rw [ext_tail, ← hst]⟩
    · rw [if_neg (by simpa using h48), h] at hst
      exact .inr (.inl ⟨h1, by rw [e0, e48, decide_eq_false h48], hst.symm⟩)
  · by_cases h2 : X.size = 1
    · exact .inr (.inr (.inl ⟨h2, by rw [← h, trimL_short (by omega)]⟩))
    · refine .inr (.inr (.inr ⟨by omega, ?_⟩))
      rw [← h, List.length_eq_zero_iff.1 (by omega : X.data.toList.length = 0)]; rfl

set_option maxRecDepth 100000 in
set_option maxHeartbeats 4000000 in
theorem trim_any (s : ByteArray) (hs : s.size ≤ 100000) (w : World) :
    Calls Tryd.prog 50 #[.string s] w fun e w' => e = .returned (.string ⟨(trimL s.data.toList).toArray⟩) ∧ w = w' := by
  obtain ⟨R, hR⟩ : ∃ R, R = trimL s.data.toList := ⟨_, rfl⟩
  have HE : Hid (trimL s.data.toList = R) := hR.symm
  rw [← hR]
  clear hR
  go_enter Tryd.func50, Tryd.ntmps50
  go_wp2
  go_loop [0] (fun x => ∃ X : ByteArray, X.size ≤ 100000 ∧ x = .string X ∧ Hid (trimL X.data.toList = R)) (fun x => strLen x)
  case atStart => exact ⟨_, hs, rfl, HE⟩
  case round =>
    obtain ⟨X, hX, rfl, HX⟩ := hrel
    rcases trim_round X R HX.out with ⟨h1, e48, hr⟩ | ⟨h1, e48, hr⟩ | ⟨h1, hr⟩ | ⟨h1, hr⟩
    · have HR := Lib.hid hr
      have e0 : X[0]! = X[0] := getElem!_pos X 0 (by omega)
      rw [e0] at e48
      clear hr HX e0
      go_wp2
      go_round
      case rel => exact ⟨_, by simp [ByteArray.size_extract]; omega, rfl, HR⟩
      case measure => simp [strLen, ByteArray.size_extract]; omega
    · have e0 : X[0]! = X[0] := getElem!_pos X 0 (by omega)
      rw [e0] at e48
      have hne : X.toList = [] ↔ False := by
        rw [Lib.toList_data]
        constructor
        · intro h; have := ba_len X; rw [h] at this; simp at this; omega
        · exact False.elim
      have hn2 : X.toList.isEmpty = false := by simp [hne]
      have HR := Lib.hid hr
      clear HX e0 hr hne
      go_wp2
      go_ret
      exact ⟨ret_str (by rw [← HR.out, ba_self]), rfl⟩
    · have hn2 : X.toList.isEmpty = false := by
        rw [Lib.toList_data, List.isEmpty_eq_false_iff]
        intro h; have := ba_len X; rw [h] at this; simp at this; omega
      have h2 : ¬ 1 < X.size := by omega
      have HR := Lib.hid hr
      clear HX hr h1
      go_wp2
      go_ret
      exact ⟨ret_str (by rw [← HR.out, ba_self]), rfl⟩
    · have hX0 : X = ⟨#[]⟩ := ba_ext (List.length_eq_zero_iff.1 (by rw [ba_len]; exact h1))
      subst hX0
      have HR := Lib.hid hr
      clear HX hr h1
      go_wp2
      go_ret
      exact ⟨ret_str (by rw [HR.out]), rfl⟩

set_option maxRecDepth 100000 in
set_option maxHeartbeats 1000000 in
theorem less_any (a b : ByteArray) (w : World) :
    Calls Tryd.prog 47 #[.string a, .string b] w fun e w' => e = .returned (.bool (lessD a.data.toList b.data.toList)) ∧ w = w' := by
  have ea := ba_len a
  have eb := ba_len b
  by_cases h : a.size = b.size
  · have HD : Hid (lessD a.data.toList b.data.toList = Op.bytesLess a.toList b.toList) := by show _ = _; unfold lessD; rw [if_pos (by omega), Lib.toList_data, Lib.toList_data]
    have hb : ((a.size : Int) != (b.size : Int)) = false := by simp; omega
    clear ea eb h
    go_enter Tryd.func47, Tryd.ntmps47
    go_wp2
    go_ret
    exact ⟨ret_bool HD.out.symm, rfl⟩
  · have HD : Hid (lessD a.data.toList b.data.toList = decide ((a.size : Int) < b.size)) := by show _ = _; unfold lessD; rw [if_neg (by omega), ea, eb]; simp
    have hb : ((a.size : Int) != (b.size : Int)) = true := by simp; omega
    clear ea eb h
    go_enter Tryd.func47, Tryd.ntmps47
    go_wp2
    go_ret
    exact ⟨ret_bool (by rw [HD.out]; simp), rfl⟩

set_option maxRecDepth 100000 in
set_option maxHeartbeats 1000000 in
theorem digit_any (d : ByteArray) (i : Nat) (hd : allD d.data.toList) (hs : d.size ≤ 100000) (hi : i ≤ 100000) (w : World) :
    Calls Tryd.prog 51 #[.string d, .int .i64 i] w fun e w' => e = .returned (.int .i64 (dgt (valL d.data.toList) i : Nat)) ∧ w = w' := by
  have ed := ba_len d
  by_cases h : d.size ≤ i
  · have HV : Hid (dgt (valL d.data.toList) i = 0) := Lib.hid (val_digit0 _ hd i (by omega))
    have h2 : (d.size : Int) ≤ i := by omega
    clear hd ed h
    go_enter Tryd.func51, Tryd.ntmps51
    go_wp2
    go_ret
    exact ⟨ret_int (by rw [HV.out]; rfl), rfl⟩
  · have hv := val_digit _ hd i (by omega)
    obtain ⟨j, hj⟩ : ∃ j, j = d.size - 1 - i := ⟨_, rfl⟩
    have hjl : j < d.size := by omega
    have hg : d.data.toList.getD (d.data.toList.length - 1 - i) 0 = d[j] := by
      rw [ed, ← hj, List.getD_eq_getElem?_getD, List.getElem?_eq_getElem (by omega)]; rfl
    rw [hg] at hv
    have hc := (isD_nat _).1 (hd d[j] (by
      have : d.data.toList[j]'(by omega) = d[j] := rfl
      rw [← this]; exact List.getElem_mem _))
    have hji : ((d.size : Int) - 1 - i) = (j : Int) := by omega
    have h2 : ¬ (d.size : Int) ≤ i := by omega
    have HV : Hid (dgt (valL d.data.toList) i = d[j].toNat - 48) := Lib.hid hv
    have HJ := Lib.hid hj
    have hjz : (0 : Int) ≤ j := by omega
    have hjl2 : (j : Int) < d.size := by omega
    obtain ⟨hc1, hc2⟩ := hc
    clear hd ed h hv hg hj
    go_enter Tryd.func51, Tryd.ntmps51
    go_wp2
    go_ret
    exact ⟨ret_int (by rw [HV.out]; omega), rfl⟩
end Go.Proofs.YtibhfcnjmilepaaDoor

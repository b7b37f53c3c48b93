import Derived.Test.YtfboejdddgedcaaHpP
import Derived.Test.YtfboejdddgedcaaRows
import Derived.Deep.Slices
import Derived.WalkKit
import Derived.WalkSpells
import Derived.WalkLawsBesides
import Derived.BigQuiet
import Derived.Deep.QuietTactic
import Derived.Outline
import Derived.Lib.Hide
import Derived.Lib.Builder
namespace Go.Proofs.Ytfboejdddgedcaa
open Go.RowKit

theorem ret_bool {a b : Bool} (h : a = b) : Ending.returned (.bool a) = .returned (.bool b) := by rw [h]
theorem ret_int {k : IntKind} {a b : Int} (h : a = b) : Ending.returned (.int k a) = .returned (.int k b) := by rw [h]
/-- a row of words, as it lies in blocks for which ok holds -/
inductive WdS (w : World) (ok : Nat → Prop) : Value → List Nat → Prop
  | mkNil (a : Option Addr) (c : Nat) : WdS w ok (.slice a 0 c) []
  | mkSome (b off cap n : Nat) (l : List Nat) : ok b → n = l.length → n ≤ maxLen ∧ n ≤ cap → (∀ j, j < l.length → w.cell? ⟨b, off + j, none⟩ = some (.int .u64 (l.getD j 0))) →
      (∀ x ∈ l, x < 18446744073709551616) → WdS w ok (.slice (some ⟨b, off, none⟩) n cap) l
theorem WdS.mono {w w' : World} {ok ok' : Nat → Prop} (ho : ∀ b, ok b → ok' b) (hc : ∀ b o, ok b → w'.cell? ⟨b, o, none⟩ = w.cell? ⟨b, o, none⟩) {v : Value} {l : List Nat} (h : WdS w ok v l) : WdS w' ok' v l := by
  cases h with
  | mkNil a c => exact .mkNil a c
  | mkSome b off cap n l h1 h2 h3 h4 h5 => exact .mkSome b off cap n l (ho b h1) h2 h3 (fun j hj => (hc b _ h1).trans (h4 j hj)) h5
theorem WdS.val {w : World} {ok : Nat → Prop} {v : Value} {l : List Nat} (h : WdS w ok v l) : ∃ a c, v = .slice a l.length c := by
  cases h with
  | mkNil a c => exact ⟨_, _, rfl⟩
  | mkSome b off cap n l h1 h2 h3 h4 h5 => exact ⟨_, _, by rw [h2]⟩
theorem WdS.elem {w : World} {ok : Nat → Prop} {v : Value} {l : List Nat} (h : WdS w ok v l) {j : Nat} (hj : j < l.length) :
    ∃ b off c, v = .slice (some ⟨b, off, none⟩) l.length c ∧ ok b ∧ w.cell? ⟨b, off + j, none⟩ = some (.int .u64 (l.getD j 0)) ∧ l.getD j 0 < 18446744073709551616 := by
  cases h with
  | mkNil a c => exact absurd hj (Nat.not_lt_zero _)
  | mkSome b off cap n l h1 h2 h3 h4 h5 =>
    refine ⟨b, off, cap, by rw [h2], h1, h4 j hj, h5 _ ?_⟩
    simp [List.getD_eq_getElem?_getD, hj]
theorem WdS.len {w : World} {ok : Nat → Prop} {v : Value} {l : List Nat} (h : WdS w ok v l) : l.length ≤ maxLen := by
  cases h with
  | mkNil a c => exact Nat.zero_le _
  | mkSome b off cap n l h1 h2 h3 h4 h5 => rw [← h2]; exact h3.1
/-- an object: where it stands, its kind, its fields -/
def ObAt (w : World) (ok : Nat → Prop) (b off at_ : Nat) (o : Ob) : Prop :=
  w.cell? ⟨b, off, none⟩ = some (.int .i64 at_) ∧ w.cell? ⟨b, off + 1, none⟩ = some (.int .i64 o.kind) ∧ ∃ v, w.cell? ⟨b, off + 2, none⟩ = some v ∧ WdS w ok v o.f
/-- a row of objects -/
inductive ObS (w : World) (ok : Nat → Prop) : Value → List Ob → Prop
  | mkNil (a : Option Addr) (c : Nat) : ObS w ok (.slice a 0 c) []
  | mkSome (b off cap n : Nat) (l : List Ob) : ok b → n = l.length → n ≤ maxLen ∧ n ≤ cap → (∀ j, j < l.length → ObAt w ok b (off + j * 3) (adrH l j) (l.getD j ob0)) →
      ObS w ok (.slice (some ⟨b, off, none⟩) n cap) l
theorem ObAt.mono {w w' : World} {ok ok' : Nat → Prop} (ho : ∀ b, ok b → ok' b) (hc : ∀ b o, ok b → w'.cell? ⟨b, o, none⟩ = w.cell? ⟨b, o, none⟩) {b off a : Nat} {o : Ob} (hb : ok b) (h : ObAt w ok b off a o) : ObAt w' ok' b off a o := by
  obtain ⟨h1, h2, v, h3, h4⟩ := h
  exact ⟨(hc b _ hb).trans h1, (hc b _ hb).trans h2, v, (hc b _ hb).trans h3, h4.mono ho hc⟩
theorem ObS.mono {w w' : World} {ok ok' : Nat → Prop} (ho : ∀ b, ok b → ok' b) (hc : ∀ b o, ok b → w'.cell? ⟨b, o, none⟩ = w.cell? ⟨b, o, none⟩) {v : Value} {l : List Ob} (h : ObS w ok v l) : ObS w' ok' v l := by
  cases h with
  | mkNil a c => exact .mkNil a c
  | mkSome b off cap n l h1 h2 h3 h4 => exact .mkSome b off cap n l (ho b h1) h2 h3 (fun j hj => (h4 j hj).mono ho hc h1)
theorem ObS.val {w : World} {ok : Nat → Prop} {v : Value} {l : List Ob} (h : ObS w ok v l) : ∃ a c, v = .slice a l.length c := by
  cases h with
  | mkNil a c => exact ⟨_, _, rfl⟩
  | mkSome b off cap n l h1 h2 h3 h4 => exact ⟨_, _, by rw [h2]⟩
theorem ObS.elem {w : World} {ok : Nat → Prop} {v : Value} {l : List Ob} (h : ObS w ok v l) {j : Nat} (hj : j < l.length) :
    ∃ b off c u, v = .slice (some ⟨b, off, none⟩) l.length c ∧ ok b ∧ w.cell? ⟨b, off + j * 3, none⟩ = some (.int .i64 (adrH l j)) ∧ w.cell? ⟨b, off + j * 3 + 1, none⟩ = some (.int .i64 (l.getD j ob0).kind) ∧ w.cell? ⟨b, off + j * 3 + 2, none⟩ = some u ∧ WdS w ok u (l.getD j ob0).f := by
  cases h with
  | mkNil a c => exact absurd hj (Nat.not_lt_zero _)
  | mkSome b off cap n l h1 h2 h3 h4 =>
    obtain ⟨a1, a2, u, a3, a4⟩ := h4 j hj
    exact ⟨b, off, cap, u, by rw [h2], h1, a1, a2, a3, a4⟩
theorem ObS.len {w : World} {ok : Nat → Prop} {v : Value} {l : List Ob} (h : ObS w ok v l) : l.length ≤ maxLen := by
  cases h with
  | mkNil a c => exact Nat.zero_le _
  | mkSome b off cap n l h1 h2 h3 h4 => rw [← h2]; exact h3.1
/-- a heap: how many words, its objects -/
structure HpAt (w : World) (ok : Nat → Prop) (hb n : Nat) (v : Value) (l : List Ob) : Prop where
  blk : w.heap[hb]? = some (.cells #[.int .i64 n, v] 45 (0, 0))
  obs : ObS w ok v l
  big : n ≤ 1048576
  room : usedH l ≤ n
theorem HpAt.c0 {w : World} {ok : Nat → Prop} {hb n : Nat} {v : Value} {l : List Ob} (h : HpAt w ok hb n v l) : w.cell? ⟨hb, 0, none⟩ = some (.int .i64 n) := Lib.cell_of_heap h.blk 0
theorem HpAt.c1 {w : World} {ok : Nat → Prop} {hb n : Nat} {v : Value} {l : List Ob} (h : HpAt w ok hb n v l) : w.cell? ⟨hb, 1, none⟩ = some v := Lib.cell_of_heap h.blk 1
theorem HpAt.fr {w : World} {ok : Nat → Prop} {hb n : Nat} {v : Value} {l : List Ob} (h : HpAt w ok hb n v l) (j : Nat) : w.frozen? ⟨hb, j, none⟩ = false := Lib.frozen_of_heap h.blk j
theorem HpAt.lt {w : World} {ok : Nat → Prop} {hb n : Nat} {v : Value} {l : List Ob} (h : HpAt w ok hb n v l) : hb < w.heap.size := (Array.getElem?_eq_some_iff.1 h.blk).1
theorem len_used (l : List Ob) : l.length ≤ usedH l := by
  induction l with
  | nil => exact Nat.zero_le _
  | cons o r ih => rw [usedH_cons, List.length_cons]; unfold szO; omega
theorem used_take {l : List Ob} (k : Nat) : usedH (l.take k) ≤ usedH l := by
  have := usedH_app (l.take k) (l.drop k)
  rw [List.take_append_drop] at this
  omega
theorem field_used {l : List Ob} {k : Nat} (hk : k < l.length) : (l.getD k ob0).f.length + 1 + usedH (l.take k) = usedH (l.take (k + 1)) := by
  have h2 := adrH_succ hk
  unfold adrH szO at h2
  omega
/-- whose word it is, as a number: -1: nobody's -/
def atI (l : List Ob) (x : Nat) : Int := match atH l x with
  | some k => k
  | none => -1
theorem atI_found {l : List Ob} {k : Nat} (hk : k < l.length) : atI l (wordH l k) = k := by
  unfold atI
  rw [(atH_some (k := k)).2 ⟨hk, rfl⟩]
theorem atI_none {l : List Ob} {x : Nat} (h : ∀ k, k < l.length → x ≠ wordH l k) : atI l x = -1 := by
  unfold atI
  cases he : atH l x with
  | none => rfl
  | some k => exact absurd (atH_some.1 he).2 (h k (atH_some.1 he).1)

set_option maxHeartbeats 1600000 in
/-- whose word a word is -/
theorem rat_any {w : World} {ok : Nat → Prop} {hb n : Nat} {v : Value} {l : List Ob} (h : HpAt w ok hb n v l) (x : Nat) :
    Calls Try.prog 43 #[.pointer (some ⟨hb, 0, none⟩), .int .u64 x] w fun e w' => e = .returned (.int .i64 (atI l x)) ∧ w = w' := by
  have hc1 := h.c1
  have hlu := Nat.le_trans (len_used l) h.room
  have hbig := h.big
  have hroom := h.room
  have HO := Lib.hid h.obs
  obtain ⟨a, c, rfl⟩ := h.obs.val
  clear h
  obtain ⟨m, hm⟩ : ∃ m, m = l.length := ⟨_, rfl⟩
  have HM := Lib.hid hm
  rw [← hm] at hc1 HO hlu
  clear hm
  go_enter Try.func43, Try.ntmps43
  go_wp2
  go_loop [5] (fun i => ∃ k : Nat, k ≤ m ∧ i = .int .i64 k ∧ Hid (∀ j, j < k → x ≠ wordH l j)) (fun i => m - (intOf i).toNat)
  case atStart => exact ⟨0, Nat.zero_le _, rfl, Lib.hid fun j hj => absurd hj (Nat.not_lt_zero _)⟩
  case round =>
    obtain ⟨k, hk, rfl, H⟩ := hrel
    by_cases hlt : k < m
    · obtain ⟨b, off, c', u, hv, hb, e0, _⟩ := HO.out.elem (j := k) (by rw [← HM.out]; exact hlt)
      rw [← HM.out] at hv
      cases hv
      have hle := used_take (l := l) k
      obtain ⟨z, hz⟩ : ∃ z, z = adrH l k := ⟨_, rfl⟩
      have hzl : z ≤ 1048577 := by rw [hz]; unfold adrH; omega
      rw [← hz] at e0
      have hwz : wordH l k = 4 * z := by unfold wordH; rw [hz]
      have HZ := Lib.hid hwz
      clear hz hle hwz
      by_cases he : x = 4 * z
      · have hd : ((x : Int) == 4 * (z : Int)) = true := by rw [beq_iff_eq]; omega
        have HE := Lib.hid he
        clear he
        go_wp2
        go_ret
        refine ⟨ret_int ?_, rfl⟩
        rw [HE.out, ← HZ.out]
        exact (atI_found (by rw [← HM.out]; exact hlt)).symm
      · have hd : ((x : Int) == 4 * (z : Int)) = false := by rw [beq_eq_false_iff_ne]; omega
        have HE := Lib.hid he
        clear he
        go_wp2
        go_round
        case rel =>
          refine ⟨k + 1, by omega, by go_num, Lib.hid fun j hj => ?_⟩
          rcases Nat.lt_or_ge j k with h1 | h1
          · exact H.out j h1
          · obtain rfl : j = k := by omega
            rw [HZ.out]; exact HE.out
        case measure => simp [intOf]; omega
    · obtain rfl : k = m := by omega
      go_wp2
      go_ret
      refine ⟨ret_int ?_, rfl⟩
      exact (atI_none fun j hj => H.out j (by rw [HM.out]; exact hj)).symm
end Go.Proofs.Ytfboejdddgedcaa

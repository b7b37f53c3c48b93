import Derived.Test.YtfboejdddgedcaaHpM
import Derived.Test.YtfboejdddgedcaaHpMet
namespace Go.Proofs.Ytfboejdddgedcaa
open Go.RowKit

/-- what a word stands for -/
def wordL (x b : Nat) (made : List Nat) : Nat := if b = 0 ∨ made = [] ∨ x % b = 0 then x else made.getD ((x % b) % made.length) 0
def wordsL (l : List Nat) (b : Nat) (made : List Nat) : List Nat := l.map fun x => wordL x b made
theorem wordL_lt {x b : Nat} {made : List Nat} (hx : x < 18446744073709551616) (hm : ∀ y ∈ made, y < 18446744073709551616) : wordL x b made < 18446744073709551616 := by
  unfold wordL
  split
  · exact hx
  · rename_i h
    have h2 : made ≠ [] := fun e => h (.inr (.inl e))
    have h3 := List.length_pos_iff.2 h2
    exact hm _ (getD_mem (Nat.mod_lt _ h3))
theorem wordsL_lt {l : List Nat} {b : Nat} {made : List Nat} (hl : ∀ x ∈ l, x < 18446744073709551616) (hm : ∀ y ∈ made, y < 18446744073709551616) : ∀ y ∈ wordsL l b made, y < 18446744073709551616 := by
  intro y hy
  obtain ⟨x, hx, rfl⟩ := List.mem_map.1 hy
  exact wordL_lt (hl x hx) hm
theorem wordsL_len (l : List Nat) (b : Nat) (made : List Nat) : (wordsL l b made).length = l.length := by simp [wordsL]

set_option maxRecDepth 20000 in
set_option maxHeartbeats 1600000 in
theorem word_any {w : World} {ok : Nat → Prop} {v : Value} {made : List Nat} (h : WdS w ok v made) (x b : Nat) (hx : x < 18446744073709551616) (hb : b < 18446744073709551616) (hl : made.length ≤ 100000) :
    Calls Try.prog 10 #[.int .u64 x, .int .u64 b, v] w fun e w' => e = .returned (.int .u64 (wordL x b made : Nat)) ∧ w = w' := by
  have HW := Lib.hid h
  obtain ⟨a, c, rfl⟩ := h.val
  clear h
  unfold wordL
  by_cases h0 : b = 0
  · subst h0
    rw [if_pos (.inl rfl)]
    clear HW hx hb
    go_enter Try.func10, Try.ntmps10
    go_wp2
    go_ret
    exact ⟨rfl, rfl⟩
  have hb0 : ((b : Int) == 0) = false := by rw [beq_eq_false_iff_ne]; omega
  by_cases h1 : made = []
  · subst h1
    rw [if_pos (.inr (.inl rfl))]
    clear HW hx hb h0
    go_enter Try.func10, Try.ntmps10
    go_wp2
    go_ret
    exact ⟨rfl, rfl⟩
  have hn0 : 0 < made.length := List.length_pos_iff.2 h1
  obtain ⟨q, hq⟩ : ∃ q, q = x % b := ⟨_, rfl⟩
  have hbI : ¬ ((b : Int) = 0) := by omega
  have eq1 : (x : Int) % (b : Int) = (q : Int) := by rw [hq]; exact (Int.natCast_emod x b).symm
  have eq2 : (x : Int).tmod (b : Int) = (q : Int) := by rw [Int.tmod_eq_emod_of_nonneg (by omega)]; exact eq1
  rw [← hq]
  by_cases h2 : q = 0
  · subst h2
    rw [if_pos (.inr (.inr rfl))]
    clear HW hx hb h0 hq h1
    generalize made.length = n at *
    have hn1 : ((n : Int) == 0) = false := by rw [beq_eq_false_iff_ne]; omega
    go_enter Try.func10, Try.ntmps10
    go_wp2
    go_ret
    exact ⟨rfl, rfl⟩
  · rw [if_neg (fun h => h.elim h0 fun h => h.elim h1 h2)]
    have hq0 : ((q : Int) == 0) = false := by rw [beq_eq_false_iff_ne]; omega
    obtain ⟨g, off, c', hv, _, he, hlt⟩ := HW.out.elem (j := q % made.length) (Nat.mod_lt _ hn0)
    cases hv
    generalize made.getD (q % made.length) 0 = y at *
    obtain ⟨r, hr⟩ : ∃ r, r = q % made.length := ⟨_, rfl⟩
    have hrn : r < made.length := by rw [hr]; exact Nat.mod_lt _ hn0
    have eq3 : (q : Int) % (made.length : Int) = (r : Int) := by rw [hr]; exact (Int.natCast_emod q made.length).symm
    have eq4 : (q : Int).tmod (made.length : Int) = (r : Int) := by rw [Int.tmod_eq_emod_of_nonneg (by omega)]; exact eq3
    rw [← hr] at he
    have hnI : ¬ ((made.length : Int) = 0) := by omega
    have hr0 : (0 : Int) ≤ r := Int.natCast_nonneg _
    have hrI : (r : Int) < made.length := by omega
    clear HW hx hb h0 hq h1 h2 hr hlt
    generalize made.length = n at *
    have hn1 : ((n : Int) == 0) = false := by rw [beq_eq_false_iff_ne]; omega
    go_enter Try.func10, Try.ntmps10
    go_wp2
    go_ret
    exact ⟨rfl, rfl⟩
theorem RowM.wds {w : World} {v : Value} {l : List Nat} (h : RowM w v l) (hl : ∀ x ∈ l, x < 18446744073709551616) : WdS w (fun b => v.ownBlock = some b) v l := by
  rcases h.2 with ⟨rfl, h0⟩ | ⟨g, cap, cur, rfl, hb, hg, h1, h2, hr⟩
  · obtain rfl : l = [] := List.length_eq_zero_iff.1 h0
    exact .mkNil _ _
  · refine .mkSome g 0 cap _ l rfl rfl ⟨by omega, h1⟩ (fun j hj => ?_) hl
    have := h.cells (g := g) rfl j _ (rowU_get l hj)
    rw [addh_none] at this
    rw [Nat.zero_add]
    exact this
theorem src_oneT {w : World} (x : Nat) (T : TypeId) : SrcU (w.alloc (.cells #[.int .u64 (x : Nat)] T)) (some ⟨w.heap.size, 0, none⟩) [x] := .inr ⟨_, rfl, src_one (heap_alloc_new _ _)⟩

set_option maxRecDepth 20000 in
set_option maxHeartbeats 3200000 in
theorem words_any {w : World} {ok ok2 : Nat → Prop} {u v : Value} {l made : List Nat} (hu : WdS w ok u l) (hv : WdS w ok2 v made) (hok : ∀ b, ok b → b < w.heap.size) (hok2 : ∀ b, ok2 b → b < w.heap.size) (b : Nat) (hb : b < 18446744073709551616) (hl : l.length ≤ 1000) (hm : made.length ≤ 100000) :
    Calls Try.prog 11 #[u, .int .u64 b, v] w fun e w' => ∃ r, e = .returned r ∧ RowM w' r (wordsL l b made) ∧ (∀ k, r.ownBlock = some k → w.heap.size ≤ k) ∧ Below w.heap.size w w' := by
  have HU := Lib.hid (fun (wr : World) (hB : Below w.heap.size w wr) => hu.mono (w' := wr) (ok' := ok) (fun _ h => h) (fun k o hk => hB.cell (p := ⟨k, o, none⟩) (hok k hk)))
  have HV := Lib.hid (fun (wr : World) (hB : Below w.heap.size w wr) => hv.mono (w' := wr) (ok' := ok2) (fun _ h => h) (fun k o hk => hB.cell (p := ⟨k, o, none⟩) (hok2 k hk)))
  obtain ⟨ua, uc, rfl⟩ := hu.val
  obtain ⟨n, hn⟩ : ∃ n, n = l.length := ⟨_, rfl⟩
  rw [← hn] at HU hl ⊢
  have HN := Lib.hid hn
  have HB := Lib.hid hb
  have HM := Lib.hid hm
  clear hu hv hok hok2 hn hb hm
  go_enter Try.func11, Try.ntmps11
  go_wp2
  go_loopw [7, 8] (fun o i wr => ∃ (k : Nat) (a : Option Addr) (m c : Nat), k ≤ n ∧ i = .int .i64 k ∧ o = .slice a m c ∧ Hid (RowM wr (.slice a m c) (wordsL (l.take k) b made)) ∧ Hid (∀ j, (Value.slice a m c).ownBlock = some j → w.heap.size ≤ j) ∧ Hid (Below w.heap.size w wr)) (fun _ i _ => n - (intOf i).toNat)
  case atStart => exact ⟨0, none, 0, 0, Nat.zero_le _, rfl, rfl, Lib.hid (World.ownsRow_nil _ _ _ _), Lib.hid nofun, Lib.hid (Below.refl _ _)⟩
  case round =>
    obtain ⟨k, a, m, c, hk, rfl, rfl, HR, HF, HBL⟩ := hrel
    by_cases hlt : k < n
    · have hkl : k < l.length := by rw [← HN.out]; exact hlt
      obtain ⟨g, off, c', hv, _, e0, hxl⟩ := (HU.out wr HBL.out).elem hkl
      rw [← HN.out] at hv
      cases hv
      have HC := Lib.hid (word_any (HV.out wr HBL.out) (l.getD k 0) b hxl HB.out HM.out)
      have htk : wordsL (l.take (k + 1)) b made = wordsL (l.take k) b made ++ [wordL (l.getD k 0) b made] := by
        unfold wordsL; rw [take_succ_getD hkl, List.map_append]; rfl
      have HT := Lib.hid htk
      have HLN := Lib.hid (show (wordsL (l.take k) b made).length = k by rw [wordsL_len, List.length_take]; omega)
      clear hkl hxl htk
      generalize wordL (l.getD k 0) b made = y at *
      generalize l.getD k 0 = x at *
      go_wp2_with fail
      refine HC.out.mono ?_
      rintro e w1 ⟨rfl, rfl⟩
      go_wp2_with (at_builtin; refine wpl_appU _ rfl _ _ rfl (v := .slice a m c) (l := wordsL (l.take k) b made) (m := [y]) (HR.out.keep (w' := wr.alloc (.cells #[.int .u64 (y : Nat)] 32)) fun j hj => Below.heap_alloc _ _ _ (HR.out.lt hj)) rfl (ad := some ⟨wr.heap.size, 0, none⟩) (c := 1) (src_oneT y _) rfl (by rw [HLN.out]; simp; omega) ?_)
      intro v3 w3 hr3 hg3 ho3 hf3
      obtain ⟨a3, n3, k3, rfl⟩ := hr3.form
      have HR3 := Lib.hid (show RowM w3 (.slice a3 n3 k3) (wordsL (l.take (k + 1)) b made) by rw [HT.out]; exact hr3)
      have HBA := Lib.hid (show Below w.heap.size w (wr.alloc (.cells #[.int .u64 (y : Nat)] 32)) from HBL.out.alloc HBL.out.size _)
      have HF3 := Lib.hid (show ∀ j, (Value.slice a3 n3 k3).ownBlock = some j → w.heap.size ≤ j from fun j hj => by
        rcases ho3 with h | h
        · rw [h] at hj; exact HF.out j hj
        · rw [h] at hj; have h2 := HBA.out.size; cases hj; have := HBL.out.size; omega)
      have HB3 := Lib.hid (show Below w.heap.size w w3 from HBA.out.grown hg3 HBA.out.size HF.out)
      clear hr3 hg3 ho3 hf3
      go_wp2
      exact ⟨⟨k + 1, _, _, _, hlt, by go_num, rfl, HR3, HF3, HB3⟩, by simp [intOf]; omega⟩
    · obtain rfl : k = n := by omega
      have HFIN := Lib.hid (show RowM wr (.slice a m c) (wordsL l b made) by
        have h := HR.out
        rw [HN.out, List.take_length] at h
        exact h)
      go_wp2
      go_ret
      exact ⟨_, rfl, HFIN.out, HF.out, HBL.out⟩
end Go.Proofs.Ytfboejdddgedcaa

import Derived.Test.YtgjkobkcmgliaaaNwL
import Derived.Test.YtgjkobkcmgliaaaShelf
namespace Go.Proofs.Ytgjkobkcmgliaaa
open Go.RowKit Go.Shelf Go.Lib Go.Sort

/-- the order of facts: by their variables -/
def cfF (x y : Int × Int) : Int := Lib.compareInt x.1 y.1
theorem ltF (x y : Int × Int) : ltOf cfF x y = decide (x.1 < y.1) := by
  unfold ltOf cfF Lib.compareInt
  by_cases h1 : x.1 < y.1
  · simp [h1]
  · by_cases h2 : y.1 < x.1 <;> simp [h1, h2]
theorem swoF : SWO (ltOf cfF) where
  irrefl x := by rw [ltF]; simp
  trans x y z h1 h2 := by rw [ltF] at *; simp at *; omega
  ntrans x y z h1 h2 := by rw [ltF] at *; simp at *; omega

set_option maxRecDepth 100000 in
set_option maxHeartbeats 1000000 in
theorem cmp_go (x y : Int × Int) (W : World) : Calls Try.prog 66 #[.agg #[.int .i64 x.1, .int .i64 x.2], .agg #[.int .i64 y.1, .int .i64 y.2]] W fun e w' => e = .returned (.int .i64 (cfF x y)) ∧ ∃ q os', w' = grow (W.drewN q) os' := by
  have hcon := fun W' => AnyG.cmp_Compare_int Try.cmpInt x.1 y.1 W'
  change ∀ W', Calls Try.prog 67 _ _ _ at hcon
  show Calls Try.prog 66 _ W fun e w' => e = .returned (.int .i64 (Lib.compareInt x.1 y.1)) ∧ ∃ q os', w' = grow (W.drewN q) os'
  generalize Lib.compareInt x.1 y.1 = r at hcon ⊢
  go_enter Try.func66, Try.ntmps66
  go_wp2_with (go_at_call 67; refine (hcon _).mono ?_; rintro e w' ⟨rfl, rfl⟩)
  go_ret
  exact ⟨rfl, 0, _, by rw [alloc_eq_grow, alloc_eq_grow, grow_grow]; rfl⟩

theorem flat_get (d : Array (Int × Int)) (t : Nat) (h : t < d.size * 2) : (flatK faCells 2 d)[t]? = (fasCells d.toList)[t]? := by
  have h2 : t / 2 < d.size := by omega
  have hs : t < (flatK faCells 2 d).size := by simpa using h
  rw [Array.getElem?_eq_getElem hs, ← getElem!_pos (flatK faCells 2 d) t hs, get_flatK _ _ _ _ h]
  have hg := fasCells_get d.toList (t / 2) (by simpa using h2)
  have e0 : d.toList.getD (t / 2) fa0 = d[t / 2]! := by
    rw [List.getD_eq_getElem?_getD, Array.getElem?_toList, getElem!_pos d _ h2]; simp [h2]
  rw [e0] at hg
  rcases (by omega : t % 2 = 0 ∨ t % 2 = 1) with e | e
  · rw [e, show t = t / 2 * 2 by omega, show t / 2 * 2 / 2 = t / 2 by omega, hg.1]; rfl
  · rw [e, show t = t / 2 * 2 + 1 by omega, show (t / 2 * 2 + 1) / 2 = t / 2 by omega, hg.2]; rfl
theorem own_block? {w : World} {B e sz g cap n : Nat} {xs : List Value} (h : w.ownsRow B e sz (.slice (some ⟨g, 0, none⟩) n cap) n xs) : ∃ cur, B ≤ g ∧ w.heap[g]? = some (.cells cur e (0, 0)) ∧ n ≤ cap ∧ cap ≤ maxLen ∧ cur.size = cap * sz ∧ cur.toList.take (n * sz) = xs := by
  rcases h.2 with ⟨h, _⟩ | ⟨g', cap', cur, hv, hb, hg, r⟩
  · cases h
  · cases hv; exact ⟨cur, hb, hg, r⟩
/-- such a row holds its facts, as the sort has it -/
theorem own_holds {w : World} {B e g cap n : Nat} {l : List (Int × Int)} (_hn : n = l.length) (h : w.ownsRow B e 2 (.slice (some ⟨g, 0, none⟩) n cap) n (fasCells l)) : HoldsK faCells 2 w g 0 l.toArray := by
  obtain ⟨cur, _, hg, _⟩ := own_block? h
  intro j hj
  have hj2 : j < l.length * 2 := by simpa using hj
  have h1 := flat_get l.toArray j (by simpa using hj2)
  rw [Array.getElem?_eq_getElem hj, ← getElem!_pos (flatK faCells 2 l.toArray) j hj] at h1
  have h2 := @World.ownsRow.cells _ _ _ _ _ _ _ h g rfl j _ h1.symm
  rw [add_none] at h2
  rw [Nat.zero_add]
  exact ⟨h2, Lib.frozen_of_heap hg j⟩
/-- the row behind the sort -/
theorem sorted_own {w : World} {B e g cap n m : Nat} {l : List (Int × Int)} {d : Array (Int × Int)} {os : Array Obj} (hn : n = l.length) (hd : d.size = n) (hlt : g < w.heap.size) (h : w.ownsRow B e 2 (.slice (some ⟨g, 0, none⟩) n cap) n (fasCells l)) :
    (sortWorldK faCells 2 w g 0 m d os).ownsRow B e 2 (.slice (some ⟨g, 0, none⟩) n cap) n (fasCells d.toList) := by
  obtain ⟨cur, hB, hg, hnc, hcm, hcs, ht⟩ := own_block? h
  have hF : (flatK faCells 2 d).size = n * 2 := by rw [size_flatK, hd]
  refine ⟨by rw [fasCells_len]; simp [hd], .inr ⟨g, cap, putCells id 0 (flatK faCells 2 d) cur, rfl, hB, ?_, hnc, hcm, by simp [putCells, hcs], ?_⟩⟩
  · unfold sortWorldK grow putRowK putRow mapBlock
    simp only
    rw [Array.getElem?_append_left (by simpa using hlt), Array.getElem?_modify]
    simp [hg, onCells]
  · refine List.ext_getElem? fun t => ?_
    by_cases htl : t < n * 2
    · rw [List.getElem?_take_of_lt htl, Array.getElem?_toList]
      have hc : t < cur.size := by rw [hcs]; have := Nat.mul_le_mul_right 2 hnc; omega
      have h1 := flat_get d t (by rw [hd]; exact htl)
      rw [← h1]
      have hFt : t < (flatK faCells 2 d).size := by rw [hF]; exact htl
      rw [Array.getElem?_eq_getElem hFt]
      unfold putCells
      rw [Array.getElem?_mapIdx, Array.getElem?_eq_getElem hc]
      simp only [Option.map_some, Nat.zero_le, Nat.zero_add, true_and, id, Nat.sub_zero, if_pos hFt]
      rw [getElem!_pos (flatK faCells 2 d) t hFt]
    · rw [List.getElem?_eq_none (by simp; omega), List.getElem?_eq_none (by rw [fasCells_len]; simp [hd]; omega)]
theorem sorted_but {w : World} {g m : Nat} {d : Array (Int × Int)} {os : Array Obj} (_hlt : g < w.heap.size) : But g w (sortWorldK faCells 2 w g 0 m d os) := by
  refine ⟨rfl, rfl, rfl, ?_, fun k hk hn => ?_⟩
  · unfold sortWorldK grow putRowK putRow mapBlock; simp
  · unfold sortWorldK grow putRowK putRow mapBlock
    simp only
    rw [Array.getElem?_append_left (by simpa [ahead] using hk), Array.getElem?_modify, if_neg (Ne.symm hn)]
    rfl

theorem sort_some (B g n cap : Nat) (l : List (Int × Int)) (w : World) (hn : n = l.length) (hm : n ≤ 100000) (h : w.ownsRow B 61 2 (.slice (some ⟨g, 0, none⟩) n cap) n (fasCells l)) :
    Calls Try.prog 65 #[.slice (some ⟨g, 0, none⟩) n cap, .func (.func 66) #[] #[]] w fun e w' => e = .returned (.tuple #[]) ∧ But g w w' ∧
      ∃ d, d.Perm l ∧ Sorted d ∧ w'.ownsRow B 61 2 (.slice (some ⟨g, 0, none⟩) n cap) n (fasCells d) := by
  have hlt := (own_some_lt h).2
  have eg : ∀ args w, (callFunc 66 args).run Try.prog w = .ok (.enter 66 args) w := enters_of Try.func66 (by kernel_rfl) rfl
  have hcon := AnyQ.slices_SortFunc Try.sortFa 2 Try.isAgg61 Try.sizeOf61 faCells (fun _ => rfl) (fun x v hv => by simp [faCells] at hv; rcases hv with rfl | rfl <;> rfl) cfF swoF 66 #[] g 0 cap l.toArray w eg
    (fun _ _ _ _ x y => cmp_go x y _) (own_holds hn h) hlt (by simp; omega)
  have e : (l.toArray.size : Int) = (n : Int) := by simp [hn]
  have e2 : l.toArray.size = n := by simp [hn]
  rw [e2] at hcon
  change Calls Try.prog 65 _ _ _ at hcon
  refine hcon.mono fun e w' ⟨he, d, m, os, hp, hs, hw⟩ => ⟨he, ?_, d.toList, ?_, ?_, ?_⟩
  · rw [hw]; exact sorted_but hlt
  · have h3 := hp.2.2
    have e3 : d.size = n := by rw [hp.1, e2]
    have e4 : (d.extract 0 n).toList = d.toList := by rw [← e3]; simp
    have e5 : (l.toArray.extract 0 n).toList = l := by rw [hn]; simp
    rw [e4, e5] at h3
    exact h3
  · have e3 : d.size = n := by rw [hp.1, e2]
    refine List.pairwise_iff_getElem.2 fun i j hi hj hij => ?_
    have hi' : i < d.size := by simpa using hi
    have hj' : j < d.size := by simpa using hj
    have h4 := hs i j (Nat.zero_le _) hij (by omega)
    rw [ltF, getElem!_pos d _ hj', getElem!_pos d _ hi'] at h4
    simp only [decide_eq_false_iff_not, Int.not_lt] at h4
    simpa using h4
  · rw [hw]; exact sorted_own hn (by rw [hp.1, e2]) hlt h
end Go.Proofs.Ytgjkobkcmgliaaa

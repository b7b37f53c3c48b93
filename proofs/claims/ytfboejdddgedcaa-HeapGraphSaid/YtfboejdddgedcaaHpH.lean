import Derived.Test.YtfboejdddgedcaaHpG
import Derived.Lib.SliceRun
namespace Go.Proofs.Ytfboejdddgedcaa
open Go.RowKit

theorem zero_cellsU (n : Nat) : (Builtin.zeroCells (Value.int .u64 0).cells n).toList = List.replicate n (Value.int .u64 0) := by
  show (Builtin.zeroCells #[Value.int .u64 0] n).toList = _
  simp [Builtin.zeroCells]
  apply List.ext_getElem
  · simp
  · intro i h1 h2
    simp [Nat.mod_one]
theorem rowU_zero (n : Nat) : rowU (List.replicate n 0) = List.replicate n (Value.int .u64 0) := by simp [rowU]
/-- a row of words is cleared -/
theorem run_clearU (w : World) {v : Value} {l : List Nat} (h : RowM w v l) :
    ∃ w', (∀ ty, (Builtin.clear_ #[31] ty #[v]).run Try.prog w = .ok (.tuple #[]) w') ∧ RowM w' v (List.replicate l.length 0) ∧ w.grownBy w' v.ownBlock := by
  obtain ⟨i0, hi, hz0, hz1, hz2⟩ := info_partsU Try.infoU
  have ht := Try.underlying31
  have hv : ∀ w, (zeroValue 32).run Try.prog w = .ok (.int .u64 0) w := fun w => by simp [zeroValue, typeInfo, hi, hz0]
  rcases h.2 with ⟨rfl, h0⟩ | ⟨g, cap, cur, rfl, hb, hg, h1, h2, h3, h4⟩
  · refine ⟨w, fun ty => by simp [Builtin.clear_, run_underlying ht], ?_, ⟨rfl, rfl, rfl, Nat.le_refl _, fun _ _ _ => rfl⟩⟩
    rw [h0]; exact World.ownsRow_nil _ _ _ _
  · by_cases hl : l.length = 0
    · refine ⟨w, fun ty => by rw [hl]; simp [Builtin.clear_, run_underlying ht], ?_, ⟨rfl, rfl, rfl, Nat.le_refl _, fun _ _ _ => rfl⟩⟩
      have : l = [] := List.length_eq_zero_iff.1 hl
      subst this; exact h
    · have hst := run_storeCells_at Try.prog g 0 32 (List.replicate l.length (Value.int .u64 0)) 0 cur w hg (by simp; omega) (by intro u hu; rw [List.eq_of_mem_replicate hu]; rfl)
      obtain ⟨R, hR⟩ : ∃ R, R = (cur.toList.take (0 + 0) ++ List.replicate l.length (Value.int .u64 0) ++ cur.toList.drop (0 + 0 + (List.replicate l.length (Value.int .u64 0)).length)).toArray := ⟨_, rfl⟩
      rw [← hR] at hst
      refine ⟨w.setRow g R, fun ty => ?_, ⟨by simp [rowU], .inr ⟨g, cap, R, by simp, hb, setRow_heap w g cur _ _ (0, 0) hg, by simpa using h1, h2, ?_, ?_⟩⟩, ⟨rfl, rfl, rfl, by simp, fun k _ hk => setRow_other w g k _ (fun e => hk (by simp [Value.ownBlock, e]))⟩⟩
      · obtain ⟨m, hm⟩ : ∃ m, l.length = m + 1 := ⟨l.length - 1, by omega⟩
        rw [hm] at hst ⊢
        simp [Builtin.clear_, run_underlying ht, hv, zero_cellsU, hst]
      · rw [hR]; simp; omega
      · rw [hR, rowU_zero]; simp
section
variable {w w' : World} {N M : Nat → Prop} {hb cap : Nat} {vw vs pw ps vw' pw' : Value} {W S P Z W' S' P' : List Nat}
theorem HwM.row2 (h : HwM w N hb cap vw vs pw ps W S P Z) (hs : w.heap.size ≤ w'.heap.size) (hk : ∀ k, k < w.heap.size → vs.ownBlock ≠ some k → w'.heap[k]? = w.heap[k]?) (hr : RowM w' vs S') : HwM w' N hb cap vw vs pw ps W S' P Z :=
  ⟨(hk hb h.lt h.n2).trans h.blk, h.r1.keep fun g hg => hk g (h.r1.lt hg) fun e => h.d12 g hg e, hr, h.r3.keep fun g hg => hk g (h.r3.lt hg) fun e => h.d23 g e hg, h.r4.keep fun g hg => hk g (h.r4.lt hg) fun e => h.d24 g e hg,
    h.n1, h.n2, h.n3, h.n4, h.d12, h.d13, h.d14, h.d23, h.d24, h.d34, fun b hb => ⟨Nat.lt_of_lt_of_le (h.out b hb).1 hs, (h.out b hb).2⟩⟩
theorem Dj.of {u u' v : Value} (h : Dj u v) (e : u'.ownBlock = u.ownBlock) : Dj u' v := fun g hg => h g (e ▸ hg)
theorem keep_hb {v : Value} {l : List Nat} {i : Nat} {x : Value} (h : RowM w v l) (hn : v.ownBlock ≠ some hb) : RowM (w.setCell ⟨hb, i, none⟩ x) v l := h.keep fun _ hg => heap_setCell_other _ _ _ _ (fun e => hn (by rw [hg, e]))
theorem HwM.cell1 (h : HwM w N hb cap vw vs pw ps W S P Z) (hr : RowM w vw' W') (ho : vw'.ownBlock = vw.ownBlock) : HwM (w.setCell ⟨hb, 1, none⟩ vw') N hb cap vw' vs pw ps W' S P Z :=
  ⟨heap_setCell_same w hb 1 _ _ _ h.blk, keep_hb hr (by rw [ho]; exact h.n1), keep_hb h.r2 h.n2, keep_hb h.r3 h.n3, keep_hb h.r4 h.n4, by rw [ho]; exact h.n1, h.n2, h.n3, h.n4, h.d12.of ho, h.d13.of ho, h.d14.of ho, h.d23, h.d24, h.d34,
    fun b hb => ⟨by simpa [World.setCell] using (h.out b hb).1, (h.out b hb).2.1, by rw [ho]; exact (h.out b hb).2.2.1, (h.out b hb).2.2.2⟩⟩
/-- the spare words' slice grown, and stored -/
theorem HwM.cell3 (h : HwM w N hb cap vw vs pw ps W S P Z) (hB : Below w.heap.size w w') (hr : RowM w' pw' P') (ho : pw'.ownBlock = pw.ownBlock ∨ pw'.ownBlock = some w.heap.size) : HwM (w'.setCell ⟨hb, 3, none⟩ pw') N hb cap vw vs pw' ps W S P' Z := by
  have h' := h.oth (w' := w') (M := N) hB.size (fun k hk _ => hB.block k hk) (fun b hN => ⟨.inl hN, Nat.lt_of_lt_of_le (h.out b hN).1 hB.size⟩)
  have hne : ∀ {b : Nat}, b < w.heap.size → pw.ownBlock ≠ some b → pw'.ownBlock ≠ some b := fun hb hn e => by
    rcases ho with h1 | h1
    · rw [h1] at e; exact hn e
    · rw [h1] at e; cases e; omega
  have hd : ∀ {u : Value} {l : List Nat}, RowM w u l → Dj u pw → Dj u pw' := fun hr hd g hg e => hne (hr.lt hg) (hd g hg) e
  exact ⟨heap_setCell_same w' hb 3 _ _ _ h'.blk, keep_hb h'.r1 h.n1, keep_hb h'.r2 h.n2, keep_hb hr (hne h.lt h.n3), keep_hb h'.r4 h.n4, h.n1, h.n2, hne h.lt h.n3, h.n4, h.d12, hd h.r1 h.d13, h.d14, hd h.r2 h.d23, h.d24, (hd h.r4 h.d34.symm).symm,
    fun b hb => ⟨by simpa [World.setCell] using (h'.out b hb).1, (h.out b hb).2.1, (h.out b hb).2.2.1, (h.out b hb).2.2.2.1, hne (h.out b hb).1 (h.out b hb).2.2.2.2.1, (h.out b hb).2.2.2.2.2⟩⟩
end

set_option maxHeartbeats 1600000 in
/-- all objects are taken away -/
theorem pempty_any {w : World} {N : Nat → Prop} {hb cap : Nat} {vw vs pw ps : Value} {W S P Z : List Nat} (h : HwM w N hb cap vw vs pw ps W S P Z) :
    Calls Try.prog 47 #[.pointer (some ⟨hb, 1, none⟩)] w fun e w' => e = .returned (.tuple #[]) ∧ ∃ vw', HwM w' N hb cap vw' vs pw ps [] (List.replicate S.length 0) P Z ∧ Ked N w w' := by
  obtain ⟨w1, hr1, hm1, hg1⟩ := run_clearU w h.r1
  have H1 := h.row1 hg1.size (fun k hk hn => hg1.block k hk (fun e => hn e.symm)) hm1
  obtain ⟨w2, hr2, hm2, hg2⟩ := run_clearU w1 H1.r2
  have H2 := H1.row2 hg2.size (fun k hk hn => hg2.block k hk (fun e => hn e.symm)) hm2
  obtain ⟨a, n, c, rfl⟩ := h.r1.form
  obtain ⟨a2, n2, c2, rfl⟩ := h.r2.form
  have hc63 : (c : Int) ≤ 9223372036854775807 := by
    obtain ⟨_, _, e, _, h1⟩ := h.r1.val
    cases e
    unfold maxLen at h1; omega
  have hrow : RowM w2 (.slice a 0 c) [] := by
    rcases H2.r1.2 with ⟨e, _⟩ | ⟨g, cp, cur, e, hb', hg, k1, k2, k3, _⟩
    · cases e; exact World.ownsRow_nil _ _ _ _
    · cases e; exact ⟨rfl, .inr ⟨g, _, cur, rfl, hb', hg, Nat.zero_le _, k2, k3, by simp [rowU]⟩⟩
  have HK := Lib.hid (show Ked N w (w2.setCell ⟨hb, 1, none⟩ (.slice a 0 c)) from (((Ked.refl N w).grown hg1 (fun x hx _ hN => (h.out x hN).2.2.1 hx)).grown hg2 (fun x hx _ hN => (h.out x hN).2.2.2.1 hx)).set (fun _ hN => (h.out _ hN).2.1 rfl) _)
  have HF := Lib.hid (show HwM (w2.setCell ⟨hb, 1, none⟩ (.slice a 0 c)) N hb cap (.slice a 0 c) (.slice a2 n2 c2) pw ps [] (List.replicate S.length 0) P Z from H2.cell1 hrow (by cases a <;> rfl))
  have c1 := h.c1
  have d2 := H1.c2
  have e1 := H2.c1
  have fz := H2.fr 1
  have hnc : n ≤ c := by
    obtain ⟨_, _, e, h1, _⟩ := h.r1.val
    cases e; exact h1
  have hnil : a = none → c = 0 := by
    rintro rfl
    rcases h.r1.2 with ⟨e, _⟩ | ⟨g, cap, cur, e, _⟩
    · cases e; rfl
    · cases e
  clear h H1 H2 hm1 hm2 hg1 hg2 hrow
  cases a with
  | none =>
    obtain rfl := hnil rfl
    obtain rfl : n = 0 := by omega
    go_enter Try.func47, Try.ntmps47
    go_wp2
    refine bodyPost_end (v := .tuple #[]) ?_ ?_ ?_
    · simp [results, Try.results47, go_sem]
    · rfl
    · first | exact ⟨rfl, _, HF.out, HK.out⟩ | exact ⟨rfl, ⟨_, HF.out⟩, HK.out⟩
  | some a =>
    obtain ⟨ab, ao, asp⟩ := a
    go_enter Try.func47, Try.ntmps47
    go_wp2
    refine bodyPost_end (v := .tuple #[]) ?_ ?_ ?_
    · simp [results, Try.results47, go_sem]
    · rfl
    · first | exact ⟨rfl, _, HF.out, HK.out⟩ | exact ⟨rfl, ⟨_, HF.out⟩, HK.out⟩
end Go.Proofs.Ytfboejdddgedcaa

import Derived.Test.YtghgjefobfaodaaDoorDatR
namespace Go.Proofs.YtghgjefobfaodaaDoor
open Go.RowKit

theorem rows_both {w : World} {b : Nat} {k1 k2 : Int} {t1 t2 : ByteArray} {s1 s2 : Value} {T : TypeId} {fr : Nat × Nat} (h : w.heap[b]? = some (.cells #[.int .i64 k1, .string t1, s1, .int .i64 k2, .string t2, s2] T fr)) : Rows3 w b 0 [⟨k1, t1, s1⟩, ⟨k2, t2, s2⟩] := by
  have hc := fun o => Lib.cell_of_heap h o
  intro j hj
  match j, hj with
  | 0, _ => exact ⟨(hc 0).trans rfl, (hc 1).trans rfl, (hc 2).trans rfl⟩
  | 1, _ => exact ⟨(hc 3).trans rfl, (hc 4).trans rfl, (hc 5).trans rfl⟩
  | j + 2, h => simp at h; omega
theorem raws_both {w : World} {ok : Nat → Prop} {r1 r2 : Raw} {d1 d2 : Dat} (h1 : RawOf w ok r1 d1) (h2 : RawOf w ok r2 d2) : RawsOf w ok [r1, r2] [d1, d2] := by
  refine ⟨rfl, fun j hj => ?_⟩
  match j, hj with
  | 0, _ => exact h1
  | 1, _ => exact h2
  | j + 2, h => simp at h; omega

/-- Row over two data just laid -/
theorem row_two (k1 k2 : Int) (t1 t2 : ByteArray) (s1 s2 : Value) (l1 l2 : List Dat) (T : TypeId) (w : World) (h1 : SliceOf w (· < w.heap.size) s1 l1) (h2 : SliceOf w (· < w.heap.size) s2 l2) :
    Calls Tryd.prog 18 #[.slice (some ⟨w.heap.size, 0, none⟩) 2 2] (w.alloc (.cells #[.int .i64 k1, .string t1, s1, .int .i64 k2, .string t2, s2] T)) fun e w' => (∃ a c, e = .returned (.agg #[.int .i64 5, .string ⟨#[]⟩, .slice a 2 c]) ∧ SliceOf w' (· < w'.heap.size) (.slice a 2 c) [.mk k1 t1 l1, .mk k2 t2 l2]) ∧ Below w.heap.size w w' := by
  have hr := rows_both (heap_alloc_new w (.cells #[.int .i64 k1, .string t1, s1, .int .i64 k2, .string t2, s2] T))
  have hb0 : Below w.heap.size w (w.alloc (.cells #[.int .i64 k1, .string t1, s1, .int .i64 k2, .string t2, s2] T)) := (Below.refl _ _).alloc (Nat.le_refl _) _
  refine (row_d w.heap.size _ _ rfl hr ?_).mono ?_
  · intro r hr'
    simp only [List.mem_cons, List.not_mem_nil, or_false] at hr'
    rcases hr' with rfl | rfl
    · obtain ⟨a, c, e⟩ := h1.val; exact ⟨a, _, c, e⟩
    · obtain ⟨a, c, e⟩ := h2.val; exact ⟨a, _, c, e⟩
  · rintro e w' ⟨⟨v, rfl, hown⟩, hb⟩
    have hb' := hb0.trans (hb.mono (by simp))
    have hs := hb.size
    simp at hs
    have hS : SliceOf w' (· < w'.heap.size) v [.mk k1 t1 l1, .mk k2 t2 l2] := by
      refine SliceOf.of_own (rs := [⟨k1, t1, s1⟩, ⟨k2, t2, s2⟩]) hown (by simp [maxLen]) (fun g hg => (hown.lt g hg).2) (raws_both ⟨rfl, rfl, ?_⟩ ⟨rfl, rfl, ?_⟩)
      · exact (h1.under hb').grow (by omega)
      · exact (h2.under hb').grow (by omega)
    obtain ⟨a, c, rfl⟩ : ∃ a c, v = .slice a 2 c := hS.val
    exact ⟨⟨a, c, rfl, hS⟩, hb'⟩
end Go.Proofs.YtghgjefobfaodaaDoor

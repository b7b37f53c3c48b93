import Derived.Test.YtdjhjapfmbcmlaaDoorTyDa
import Derived.Test.YtdjhjapfmbcmlaaDoorTyJb
import Derived.Test.YtdjhjapfmbcmlaaDoorShelf
import Derived.Deep.AppendLies
namespace Go.Proofs.YtdjhjapfmbcmlaaDoor
open Go.RowKit

/-- a value of type Datum that lies in no block of N -/
def DatVN (N : Nat → Prop) (w : World) (v : Value) (d : Dat) : Prop := ∃ r, v = drawV r ∧ DawOf w (Lo N w) r d
section
variable {N M : Nat → Prop} {w w' : World} {v : Value} {d : Dat} {l : List Dat}
theorem DatVN.below (h : DatVN N w v d) (hb : Below w.heap.size w w') : DatVN N w' v d := by
  obtain ⟨r, hv, h⟩ := h
  exact ⟨r, hv, h.mono (fun b h => ⟨Nat.lt_of_lt_of_le h.1 hb.size, h.2⟩) fun _ _ h => hb.cell (p := ⟨_, _, none⟩) h.1⟩
theorem DatVN.mono (h : DatVN N w v d) (hNM : ∀ b, b < w.heap.size → M b → N b) : DatVN M w v d := by
  obtain ⟨r, hv, h⟩ := h
  exact ⟨r, hv, h.mono (fun b h => ⟨h.1, fun hm => h.2 (hNM b h.1 hm)⟩) fun _ _ _ => rfl⟩
theorem DatVN.later (h : DatVN N w v d) (hb : Below w.heap.size w w') (hM : ∀ b, M b → N b ∨ w.heap.size ≤ b) : DatVN M w' v d :=
  (h.mono fun b hlt hm => (hM b hm).resolve_right (by omega)).below hb
theorem DatVN.shape (h : DatVN N w v d) : ∃ a n c, v = .agg #[.int .i64 d.kind, .string d.text, .slice a n c] := by
  obtain ⟨⟨k, t, sv⟩, rfl, h1, h2, h3⟩ := h
  obtain ⟨a, c, rfl⟩ := h3.val
  simp only at h1 h2
  subst h1 h2
  exact ⟨_, _, _, rfl⟩
theorem DatVN.mk {k : Int} {t : ByteArray} {sv : Value} (h : SliceOf w (Lo N w) sv l) : DatVN N w (.agg #[.int .i64 k, .string t, sv]) (.mk k t l) := ⟨⟨k, t, sv⟩, rfl, rfl, rfl, h⟩
theorem DatVN.raw {k : Int} {t : ByteArray} {sv : Value} (h : DatVN N w (.agg #[.int .i64 k, .string t, sv]) d) : DawOf w (Lo N w) ⟨k, t, sv⟩ d := by
  obtain ⟨⟨k', t', sv'⟩, e, h⟩ := h
  simp only [drawV, Value.agg.injEq, Array.mk.injEq, List.cons.injEq, Value.int.injEq, Value.string.injEq, true_and, and_true] at e
  obtain ⟨rfl, rfl, rfl⟩ := e
  exact h
theorem DawOf.set {r : RawD} (h : DawOf w (Lo N w) r d) (p : Addr) (hp : N p.block) (x : Value) : DawOf (w.setCell p x) (Lo N (w.setCell p x)) r d :=
  h.mono (fun _ hb => (Lo.set (p, x) rfl hp hb).1) fun _ o hb => (Lo.set (p, x) rfl hp hb).2 o
theorem DatVN.set (h : DatVN N w v d) (p : Addr) (hp : N p.block) (x : Value) : DatVN N (w.setCell p x) v d := by
  obtain ⟨r, hv, h⟩ := h
  exact ⟨r, hv, h.set p hp x⟩
end
/-- a variable of type Datum, in a block of its own -/
def DBox (w : World) (g : Nat) (k : Int) (t : ByteArray) (sv : Value) : Prop := w.heap[g]? = some (.cells #[.int .i64 k, .string t, sv] 39 (0, 0))
section
variable {w w' : World} {g B : Nat} {k k' : Int} {t t' : ByteArray} {sv sv' : Value}
theorem DBox.c0 (h : DBox w g k t sv) : w.cell? ⟨g, 0, none⟩ = some (.int .i64 k) := Lib.cell_of_heap h 0
theorem DBox.c1 (h : DBox w g k t sv) : w.cell? ⟨g, 1, none⟩ = some (.string t) := Lib.cell_of_heap h 1
theorem DBox.c2 (h : DBox w g k t sv) : w.cell? ⟨g, 2, none⟩ = some sv := Lib.cell_of_heap h 2
theorem DBox.fr (h : DBox w g k t sv) (j : Nat) : w.frozen? ⟨g, j, none⟩ = false := Lib.frozen_of_heap h j
theorem DBox.lt (h : DBox w g k t sv) : g < w.heap.size := (Array.getElem?_eq_some_iff.1 h).1
theorem DBox.keep (h : DBox w g k t sv) (hb : Below w.heap.size w w') : DBox w' g k t sv := (hb.block g h.lt).trans h
theorem DBox.under (h : DBox w g k t sv) (hb : Below B w w') (hg : g < B) : DBox w' g k t sv := (hb.block g hg).trans h
theorem DBox.made (w : World) (k : Int) (t : ByteArray) (sv : Value) : DBox (w.alloc (.cells #[.int .i64 k, .string t, sv] 39)) w.heap.size k t sv := heap_alloc_new _ _
end
/-- a whole datum is stored -/
def set3 (w : World) (g : Nat) (k : Int) (t : ByteArray) (sv : Value) : World := ((w.setCell ⟨g, 0, none⟩ (.int .i64 k)).setCell ⟨g, 1, none⟩ (.string t)).setCell ⟨g, 2, none⟩ sv
theorem below_set3 {B : Nat} {w0 w : World} {g : Nat} {k : Int} {t : ByteArray} {sv : Value} (h : Below B w0 w) (hg : B ≤ g) : Below B w0 (set3 w g k t sv) :=
  ((h.setCell (p := ⟨g, 0, none⟩) hg _).setCell (p := ⟨g, 1, none⟩) hg _).setCell (p := ⟨g, 2, none⟩) hg _
theorem DatVN.set3 {N : Nat → Prop} {w : World} {v : Value} {d : Dat} {g : Nat} {k : Int} {t : ByteArray} {sv : Value} (h : DatVN N w v d) (hg : N g) : DatVN N (Go.Proofs.YtdjhjapfmbcmlaaDoor.set3 w g k t sv) v d :=
  ((h.set ⟨g, 0, none⟩ hg _).set ⟨g, 1, none⟩ hg _).set ⟨g, 2, none⟩ hg _

/-- a row of data that is being built -/
def RowAt (N : Nat → Prop) (B : Nat) (w : World) (v : Value) (l : List Dat) : Prop :=
  ∃ rs, w.ownsRow B 39 3 v l.length (dsCells rs) ∧ DawsOf w (fun b => Lo N w b ∧ v.ownBlock ≠ some b) rs l
section
variable {N : Nat → Prop} {B : Nat} {w w' w1 : World} {v : Value} {l : List Dat}
theorem RowAt.nil : RowAt N B w (.slice none 0 0) [] := ⟨[], World.ownsRow_nil _ _ _ _, DawsOf.none _ _⟩
theorem RowAt.val (h : RowAt N B w v l) : ∃ a c, v = .slice a l.length c := by
  obtain ⟨rs, ⟨_, h⟩, _⟩ := h
  rcases h with ⟨rfl, h0⟩ | ⟨g, cap, cur, rfl, _⟩
  · exact ⟨none, 0, by rw [h0]⟩
  · exact ⟨_, _, rfl⟩
theorem RowAt.below (h : RowAt N B w v l) (hb : Below w.heap.size w w') : RowAt N B w' v l := by
  obtain ⟨rs, ho, hr⟩ := h
  refine ⟨rs, ?_, hr.mono (fun b h => ⟨⟨Nat.lt_of_lt_of_le h.1.1 hb.size, h.1.2⟩, h.2⟩) fun b o h => hb.cell (p := ⟨_, _, none⟩) h.1.1⟩
  obtain ⟨h1, h2⟩ := ho
  refine ⟨h1, ?_⟩
  rcases h2 with h2 | ⟨g, cap, cur, hv, hg, hh, r⟩
  · exact .inl h2
  · exact .inr ⟨g, cap, cur, hv, hg, (hb.block g (Array.getElem?_eq_some_iff.1 hh).1).trans hh, r⟩
theorem RowAt.done (h : RowAt N B w v l) (hN : ∀ b, N b → b < B) (hl : l.length ≤ maxLen) : SliceOf w (Lo N w) v l := by
  obtain ⟨rs, ho, hr⟩ := h
  rw [← hr.1] at ho
  refine SliceOf.of_own ho hl (fun g hg => ?_) (hr.mono (fun b h => h.1) fun _ _ _ => rfl)
  have := ho.lt g hg
  exact ⟨this.2, fun e => by have := hN g e; omega⟩
theorem RowAt.one {r : RawD} {d : Dat} (hr : DawOf w (Lo N w) r d) (hB : B ≤ w.heap.size) : RowAt N B (w.alloc (.cells #[.int .i64 r.kind, .string r.text, r.sv] 39)) (.slice (some ⟨w.heap.size, 0, none⟩) 1 1) [d] := by
  refine ⟨[r], ⟨rfl, .inr ⟨w.heap.size, 1, _, rfl, hB, heap_alloc_new w _, Nat.le_refl _, by unfold maxLen; omega, rfl, rfl⟩⟩, rfl, fun j hj => ?_⟩
  obtain rfl : j = 0 := by simpa using hj
  have hb : Below w.heap.size w (w.alloc (.cells #[.int .i64 r.kind, .string r.text, r.sv] 39)) := (Below.refl _ _).alloc (Nat.le_refl _) _
  refine hr.mono (fun b h => ⟨⟨Nat.lt_of_lt_of_le h.1 hb.size, h.2⟩, ?_⟩) fun _ _ h => hb.cell (p := ⟨_, _, none⟩) h.1
  intro e
  simp only [Value.ownBlock, Option.some.injEq] at e
  have := h.1; omega
/-- one datum more -/
theorem rowat_push {rs : List RawD} {r : RawD} {d : Dat} {o : Obj} {g cap : Nat} (hraw : DawsOf w (fun b => Lo N w b ∧ v.ownBlock ≠ some b) rs l) (hr : DawOf w (fun b => Lo N w b ∧ v.ownBlock ≠ some b) r d)
    (hgrow : (w.alloc o).grownBy w1 v.ownBlock) (hlies : v.ownBlock = some g ∨ g = w.heap.size + 1)
    (hown : w1.ownsRow B 39 3 (.slice (some ⟨g, 0, none⟩) (l.length + 1) cap) (l.length + 1) (dsCells rs ++ dCells r)) : RowAt N B w1 (.slice (some ⟨g, 0, none⟩) (l.length + 1) cap) (l ++ [d]) := by
  have hsz := hgrow.size
  rw [alloc_hs] at hsz
  have hc : ∀ b o', Lo N w b ∧ v.ownBlock ≠ some b → w1.cell? ⟨b, o', none⟩ = w.cell? ⟨b, o', none⟩ := fun b o' h => by
    refine World.cell?_of_block ?_
    rw [hgrow.block b (by rw [alloc_hs]; have := h.1.1; omega) (fun e => h.2 e.symm)]
    exact Below.heap_alloc w o b h.1.1
  have hok : ∀ b, Lo N w b ∧ v.ownBlock ≠ some b → Lo N w1 b ∧ (Value.slice (some ⟨g, 0, none⟩) (l.length + 1) cap).ownBlock ≠ some b := fun b h => by
    refine ⟨⟨by have := h.1.1; omega, h.1.2⟩, fun e => ?_⟩
    simp only [Value.ownBlock, Option.some.injEq] at e
    rcases hlies with h' | h'
    · exact h.2 (by rw [h', e])
    · have := h.1.1; omega
  refine ⟨rs ++ [r], ?_, (hraw.mono hok hc).snoc (hr.mono hok hc)⟩
  rw [List.length_append, dsCells_app]
  exact hown
end

set_option maxRecDepth 100000 in
set_option maxHeartbeats 4000000 in
theorem word_p (s : ByteArray) (hs : s.size ≤ 100000) (w : World) :
    Calls Tryd.prog 58 #[.string s] w fun e w' => e = .returned (.agg #[.int .i64 1, .string s, .slice none 0 0]) ∧ Below w.heap.size w w' := by
  have C := fun w => Tryd.stringslite_Clone s w (by omega)
  have HC := Lib.hid C
  clear C
  obtain ⟨W, hW⟩ : ∃ W, W = w.alloc (.cells #[.int .i64 0, .string ⟨#[]⟩, .slice none 0 0] 39) := ⟨_, rfl⟩
  have HBW := Lib.hid (show Below w.heap.size w W by rw [hW]; exact (Below.refl _ _).alloc (Nat.le_refl _) _)
  have HBX := Lib.hid (show DBox W w.heap.size 0 ⟨#[]⟩ (.slice none 0 0) by rw [hW]; exact DBox.made _ _ _ _)
  have HW := Lib.hid hW
  clear hW
  go_enter Tryd.func58, Tryd.ntmps58
  go_wp2_with (first | (go_at_call 73; go_in) | (go_at_call 77; rw [← HW.out]; refine (HC.out _).mono ?_))
  rintro e w' ⟨rfl, hb⟩
  have hr := HBX.out.keep hb
  have r0 := hr.c0
  have r1 := hr.c1
  have r2 := hr.c2
  have rf := hr.fr
  have HB := Lib.hid (HBW.out.trans (hb.mono HBW.out.size))
  clear hb hr
  go_wp2
  exact bodyPost_ret (v := .agg #[.int .i64 1, .string s, .slice none 0 0]) (by simp [results, Tryd.results58, go_sem, r0, r1, r2]) rfl ⟨rfl, below_set3 (g := w.heap.size) HB.out (Nat.le_refl _)⟩

set_option maxRecDepth 100000 in
set_option maxHeartbeats 4000000 in
theorem row_p (N : Nat → Prop) (b n c : Nat) (l : List Dat) (w : World) (hn : n = l.length) (hN : ∀ b, N b → b < w.heap.size) (hl : SliceOf w (Lo N w) (.slice (some ⟨b, 0, none⟩) n c) l) (hb : b < w.heap.size) (hlen : l.length ≤ 300000) (hpos : 0 < l.length) :
    Calls Tryd.prog 60 #[.slice (some ⟨b, 0, none⟩) n c] w fun e w' => (∃ v, e = .returned v ∧ DatVN N w' v (.mk 5 ⟨#[]⟩ l)) ∧ Below w.heap.size w w' := by
  obtain ⟨i0, hi, hz0, hz1, hz2⟩ := info_parts Tryd.infoDat
  rcases hl.inv with ⟨rfl, _⟩ | ⟨b', off, cap, rs, e, hlo, _, hrows, hraw⟩
  · simp at hpos
  injection e with e1 e2 e3
  injection e1 with e1
  injection e1 with e4 e5 e6
  subst e4 e5
  have hc := rows_cells hrows
  have ho := dsCells_one rs fun r hr => by
    obtain ⟨i, hi, rfl⟩ := List.getElem_of_mem hr
    have h0 := hraw.2 i (by rw [← hraw.1]; exact hi)
    have e : rs.getD i draw0 = rs[i] := by simp [List.getD_eq_getElem?_getD, hi]
    rw [e] at h0
    obtain ⟨a, c, h⟩ := h0.2.2.val
    exact ⟨a, _, c, h⟩
  have hdl := dsCells_len rs
  rw [hraw.1, ← hn] at hdl
  obtain ⟨W, hW⟩ : ∃ W, W = w.alloc (.cells #[.int .i64 0, .string ⟨#[]⟩, .slice none 0 0] 39) := ⟨_, rfl⟩
  have HBW := Lib.hid (show Below w.heap.size w W by rw [hW]; exact (Below.refl _ _).alloc (Nat.le_refl _) _)
  have HBX := Lib.hid (show DBox W w.heap.size 0 ⟨#[]⟩ (.slice none 0 0) by rw [hW]; exact DBox.made _ _ _ _)
  have HW := Lib.hid hW
  have HC := Lib.hid hc
  have HO := Lib.hid ho
  have HL := Lib.hid hdl
  have HRAW := Lib.hid hraw
  have HN := Lib.hid hN
  have HLN := Lib.hid (show l.length ≤ 300000 ∧ n = l.length from ⟨hlen, hn⟩)
  have HB := Lib.hid hb
  clear hc ho hdl hraw hW hl hlo hrows e2 e3 hN hb hlen hpos hn
  go_enter Tryd.func60, Tryd.ntmps60
  go_wp2_with (at_builtin; rw [← HW.out]; refine wpList_append_own _ rfl _ _ 37 rfl (w.heap.size + 1) 39 i0 (.agg #[.int .i64 0, .string ⟨#[]⟩, .slice none 0 0]) 3 48 Tryd.underlying37 hi hz0 hz1 hz2 rfl (by decide) _ _ _ rfl (World.ownsRow_nil _ _ _ _) ⟨b, 0, none⟩ n c (dsCells rs) rfl ?c0 ?c1 ?c2 ?c3 ?c4 ?c5 ?_)
  case c0 => exact HL.out
  case c1 => intro j u hj; have h := HC.out j u hj; rw [add_none] at h; first | exact (HBW.out.cell (p := ⟨b, j, none⟩) HB.out).trans h | (rw [add_none]; exact (HBW.out.cell (p := ⟨b, j, none⟩) HB.out).trans h)
  case c2 => exact HO.out
  case c3 => have := HLN.out; unfold maxLen; omega
  case c4 => have := HLN.out; omega
  case c5 => rw [HW.out, alloc_hs]; omega
  intro v' w1 hown hgrow _
  have hsz : W.heap.size = w.heap.size + 1 := by rw [HW.out, alloc_hs]
  have hbe : Below W.heap.size W w1 := (Below.refl _ _).grown hgrow (Nat.le_refl _) (by intro k hk; cases hk)
  have hr := HBX.out.keep hbe
  have hts : SliceOf w1 (Lo (fun b => N b ∨ b = w.heap.size) w1) v' l := by
    have ho : w1.ownsRow (w.heap.size + 1) 39 3 v' rs.length (dsCells rs) := by rw [HRAW.out.1, ← HLN.out.2]; simpa using hown
    refine SliceOf.of_own ho (by have := HLN.out; unfold maxLen; omega) (fun g hg => ?_) (HRAW.out.mono (fun b h => ⟨by have := h.1; have := hbe.size; omega, fun e => e.elim h.2 fun e => by have := h.1; omega⟩) fun b _ h => ?_)
    · have := ho.lt g hg
      exact ⟨this.2, fun e => e.elim (fun e => by have := HN.out g e; omega) (fun e => by omega)⟩
    · exact (hbe.cell (p := ⟨b, _, none⟩) (by show b < _; have := h.1; omega)).trans (HBW.out.cell (p := ⟨b, _, none⟩) h.1)
  obtain ⟨va, vc, rfl⟩ := hts.val
  have HT := Lib.hid hts
  have HBE := Lib.hid (HBW.out.trans (hbe.mono (by omega)))
  have r0 := hr.c0
  have r1 := hr.c1
  have r2 := hr.c2
  have rf := hr.fr
  clear hts hbe hr hown hgrow hsz
  go_wp2
  refine bodyPost_ret (v := .agg #[.int .i64 5, .string ⟨#[]⟩, .slice va l.length vc]) (by simp [results, Tryd.results60, go_sem, r0, r1, r2]) rfl ⟨⟨_, rfl, ?_⟩, below_set3 (g := w.heap.size) HBE.out (Nat.le_refl _)⟩
  exact (DatVN.set3 (g := w.heap.size) (DatVN.mk HT.out) (.inr rfl)).mono fun _ _ h => .inl h
end Go.Proofs.YtdjhjapfmbcmlaaDoor

import Derived.Test.YtghgjefobfaodaaDoorDatQ
import Derived.Test.YtghgjefobfaodaaDoorDatD
namespace Go.Proofs.YtghgjefobfaodaaDoor
open Go.RowKit

/-- all but block p is as it was -/
structure KeepP (p : Nat) (w w' : World) : Prop where
  os : w'.os = w.os
  tape : w'.tape = w.tape
  output : w'.output = w.output
  size : w.heap.size ≤ w'.heap.size
  block : ∀ k, k < w.heap.size → k ≠ p → w'.heap[k]? = w.heap[k]?
theorem KeepP.refl (p : Nat) (w : World) : KeepP p w w := ⟨rfl, rfl, rfl, Nat.le_refl _, fun _ _ _ => rfl⟩
theorem KeepP.trans {p : Nat} {u v w : World} (h : KeepP p u v) (k : KeepP p v w) : KeepP p u w :=
  ⟨k.os.trans h.os, k.tape.trans h.tape, k.output.trans h.output, Nat.le_trans h.size k.size, fun i hi hp => (k.block i (Nat.lt_of_lt_of_le hi h.size) hp).trans (h.block i hi hp)⟩
theorem KeepP.under {w w' : World} (p : Nat) (h : Below w.heap.size w w') : KeepP p w w' := ⟨h.os, h.tape, h.output, h.size, fun k hk _ => h.block k hk⟩
theorem KeepP.below {p B : Nat} {w w' : World} (h : KeepP p w w') (hB : B ≤ p) (hw : B ≤ w.heap.size) : Below B w w' := ⟨h.os, h.tape, h.output, h.size, fun k hk => h.block k (by omega) (by omega)⟩
theorem KeepP.setCell (p o : Nat) (w : World) (u : Value) : KeepP p w (w.setCell ⟨p, o, none⟩ u) :=
  ⟨rfl, rfl, rfl, by simp [World.setCell], fun _ _ h => Below.heap_setCell _ _ _ _ h⟩
theorem KeepP.then {p : Nat} {w wr w' : World} (h : KeepP p w wr) (k : Below w.heap.size wr w') : KeepP p w w' :=
  ⟨k.os.trans h.os, k.tape.trans h.tape, k.output.trans h.output, Nat.le_trans h.size k.size, fun i hi hp => (k.block i hi).trans (h.block i hi hp)⟩
theorem KeepP.cell {p : Nat} {w w' : World} (h : KeepP p w w') {k o : Nat} (hk : k < w.heap.size) (hp : k ≠ p) : w'.cell? ⟨k, o, none⟩ = w.cell? ⟨k, o, none⟩ := World.cell?_of_block (h.block k hk hp)
theorem KeepP.drew (p : Nat) (w : World) : KeepP p w w.drew := ⟨rfl, rfl, rfl, Nat.le_refl _, fun _ _ _ => rfl⟩
/-- the tokens of a parser at block p -/
def TokP (w : World) (p : Nat) (v : Value) (l : List Tok) : Prop :=
  (l = [] ∧ ∃ a c, v = .slice a 0 c) ∨ ∃ b off cap, v = .slice (some ⟨b, off, none⟩) l.length cap ∧ l.length ≤ cap ∧ l.length ≤ maxLen ∧ b < p ∧
    ∀ j, j < l.length → w.cell? ⟨b, off + j * 3, none⟩ = some (.int .i64 (l.getD j tok0).kind) ∧ w.cell? ⟨b, off + j * 3 + 1, none⟩ = some (.string (l.getD j tok0).text) ∧ w.cell? ⟨b, off + j * 3 + 2, none⟩ = some (.int .i64 (l.getD j tok0).pos)
theorem TokP.keep {w w' : World} {p q : Nat} {v : Value} {l : List Tok} (h : TokP w p v l) (hk : KeepP q w w') (hp : p < w.heap.size) (hq : p ≤ q) : TokP w' p v l := by
  rcases h with h | ⟨b, off, cap, h1, h2, h3, h4, h6⟩
  · exact .inl h
  · refine .inr ⟨b, off, cap, h1, h2, h3, h4, fun j hj => ?_⟩
    obtain ⟨e0, e1, e2⟩ := h6 j hj
    exact ⟨(hk.cell (by omega) (by omega)).trans e0, (hk.cell (by omega) (by omega)).trans e1, (hk.cell (by omega) (by omega)).trans e2⟩
/-- a parser at block p with what it has still to read -/
def PAt (w : World) (p : Nat) (N : Int) (l : List Tok) : Prop := ∃ v, w.heap[p]? = some (.cells #[v, .int .i64 N] 67 (0, 0)) ∧ TokP w p v l
theorem PAt.under {w w' : World} {p : Nat} {N : Int} {l : List Tok} (h : PAt w p N l) (hb : Below w.heap.size w w') : PAt w' p N l := by
  obtain ⟨v, h1, h2⟩ := h
  have hp : p < w.heap.size := by
    rcases Nat.lt_or_ge p w.heap.size with h' | h'
    · exact h'
    · rw [Array.getElem?_eq_none h'] at h1; cases h1
  exact ⟨v, (hb.block p hp).trans h1, h2.keep (KeepP.under p hb) hp (Nat.le_refl _)⟩
/-- what turns behind a parser does not touch it -/
theorem PAt.behind {w w' : World} {p q : Nat} {N : Int} {l : List Tok} (h : PAt w p N l) (hk : KeepP q w w') (hq : p < q) : PAt w' p N l := by
  obtain ⟨v, h1, h2⟩ := h
  have hp : p < w.heap.size := by
    rcases Nat.lt_or_ge p w.heap.size with h' | h'
    · exact h'
    · rw [Array.getElem?_eq_none h'] at h1; cases h1
  exact ⟨v, (hk.block p hp (by omega)).trans h1, h2.keep hk hp (by omega)⟩
theorem PAt.low {w w' : World} {p B : Nat} {N : Int} {l : List Tok} (h : PAt w p N l) (hb : Below B w w') (hp : p < B) : PAt w' p N l := by
  obtain ⟨v, h1, h2⟩ := h
  refine ⟨v, (hb.block p hp).trans h1, ?_⟩
  rcases h2 with h2 | ⟨b, off, cap, e1, e2, e3, e4, e6⟩
  · exact .inl h2
  · refine .inr ⟨b, off, cap, e1, e2, e3, e4, fun j hj => ?_⟩
    obtain ⟨a0, a1, a2⟩ := e6 j hj
    exact ⟨(hb.cell (p := ⟨b, _, none⟩) (by show b < B; omega)).trans a0, (hb.cell (p := ⟨b, _, none⟩) (by show b < B; omega)).trans a1, (hb.cell (p := ⟨b, _, none⟩) (by show b < B; omega)).trans a2⟩
theorem set3_heap {w : World} {b : Nat} {x y z x' y' z' : Value} {T : TypeId} {fr : Nat × Nat} (h : w.heap[b]? = some (.cells #[x, y, z] T fr)) :
    (((w.setCell ⟨b, 0, none⟩ x').setCell ⟨b, 1, none⟩ y').setCell ⟨b, 2, none⟩ z').heap[b]? = some (.cells #[x', y', z'] T fr) := by
  simp [World.setCell, Array.getElem?_modify, h]
theorem set2_heap {w : World} {b : Nat} {x y z z' : Value} {T : TypeId} {fr : Nat × Nat} (h : w.heap[b]? = some (.cells #[x, y, z] T fr)) :
    (w.setCell ⟨b, 2, none⟩ z').heap[b]? = some (.cells #[x, y, z'] T fr) := by
  simp [World.setCell, Array.getElem?_modify, h]
theorem own_type {w : World} {B e size n k : Nat} {v : Value} {xs : List Value} {cs : Array Value} {T : TypeId} {fr : Nat × Nat} (h : w.ownsRow B e size v n xs) (hk : w.heap[k]? = some (.cells cs T fr)) (hT : T ≠ e) : v.ownBlock ≠ some k := by
  intro hv
  rcases h.2 with ⟨rfl, _⟩ | ⟨g, cap, cur, rfl, _, hh, _⟩
  · simp [Value.ownBlock] at hv
  · simp only [Value.ownBlock, Option.some.injEq] at hv
    subst hv
    rw [hk] at hh
    simp only [Option.some.injEq, Obj.cells.injEq] at hh
    exact hT hh.2.1
theorem PAt.lt {w : World} {p : Nat} {N : Int} {l : List Tok} (h : PAt w p N l) : p < w.heap.size := by
  obtain ⟨v, h1, _⟩ := h
  rcases Nat.lt_or_ge p w.heap.size with h' | h'
  · exact h'
  · rw [Array.getElem?_eq_none h'] at h1; cases h1
theorem PAt.advance {w : World} {p : Nat} {N : Int} {v v' : Value} {l' : List Tok} (h1 : w.heap[p]? = some (.cells #[v, .int .i64 N] 67 (0, 0))) (h2 : TokP w p v' l') (A B : Obj) :
    PAt (((w.setCell ⟨p, 0, none⟩ v').alloc A).alloc B) p N l' ∧ KeepP p w (((w.setCell ⟨p, 0, none⟩ v').alloc A).alloc B) := by
  have hp : p < w.heap.size := by
    rcases Nat.lt_or_ge p w.heap.size with h' | h'
    · exact h'
    · rw [Array.getElem?_eq_none h'] at h1; cases h1
  have hz : (w.setCell ⟨p, 0, none⟩ v').heap.size = w.heap.size := by simp [World.setCell]
  have hk : KeepP p w (w.setCell ⟨p, 0, none⟩ v') := KeepP.setCell p 0 w v'
  have hb : Below (w.setCell ⟨p, 0, none⟩ v').heap.size (w.setCell ⟨p, 0, none⟩ v') (((w.setCell ⟨p, 0, none⟩ v').alloc A).alloc B) := ((Below.refl _ _).alloc (Nat.le_refl _) _).alloc (by simp) _
  have hP : PAt (w.setCell ⟨p, 0, none⟩ v') p N l' := ⟨v', by simp [World.setCell, Array.getElem?_modify, h1], h2.keep hk hp (Nat.le_refl _)⟩
  exact ⟨hP.under hb, hk.trans (KeepP.under p hb)⟩
/-- the way out by a token that does not fit -/
def misfit (a c : Int) : Ending := .panicked [{ v := .iface 65 (.agg #[.int .i64 a, .int .i64 c]), recovered := false }]

set_option maxRecDepth 100000 in
set_option maxHeartbeats 1000000 in
theorem within_ok (t : Tok) (ar : Nat) (h : ar < 60) (w : World) :
    Calls Tryd.prog 54 #[.agg #[.int .i64 t.kind, .string t.text, .int .i64 t.pos], .int .i64 ar] w fun e w' => e = .returned (.int .i64 (ar + 1 : Nat)) ∧ Below w.heap.size w w' := by
  have h60 : ((ar : Int) == 60) = false := by simp; omega
  go_enter Tryd.func54, Tryd.ntmps54
  go_wp2
  go_ret
  exact ⟨rfl, (Below.refl _ _).alloc (Nat.le_refl _) _⟩
set_option maxRecDepth 100000 in
set_option maxHeartbeats 1000000 in
theorem within_bad (t : Tok) (w : World) :
    Calls Tryd.prog 54 #[.agg #[.int .i64 t.kind, .string t.text, .int .i64 t.pos], .int .i64 60] w fun e w' => e = misfit t.pos 13 ∧ Below w.heap.size w w' := by
  go_enter Tryd.func54, Tryd.ntmps54
  go_wp2
  exact ⟨rfl, rfl, (Below.refl _ _).alloc (Nat.le_refl _) _⟩

set_option maxRecDepth 100000 in
set_option maxHeartbeats 1000000 in
theorem number_bad (t : Tok) (h : 200 < digs t.text) (w : World) :
    Calls Tryd.prog 55 #[.agg #[.int .i64 t.kind, .string t.text, .int .i64 t.pos]] w fun e w' => e = misfit t.pos 13 ∧ Below w.heap.size w w' := by
  have D := fun w => digitsOf_any t.text w
  have hd : (200 : Int) < (digs t.text : Nat) := by omega
  have HD := Lib.hid D
  clear D h
  go_enter Tryd.func55, Tryd.ntmps55
  go_wp2_with fail
  refine (HD.out _).mono ?_
  rintro e w' ⟨rfl, rfl⟩
  go_wp2
  exact ⟨rfl, rfl, ((Below.refl _ _).alloc (Nat.le_refl _) _).alloc (by simp) _⟩

set_option maxRecDepth 100000 in
set_option maxHeartbeats 1000000 in
theorem number_ok (t : Tok) (ht : t.text.size ≤ 300000) (h : digs t.text ≤ 200) (w : World) :
    Calls Tryd.prog 55 #[.agg #[.int .i64 t.kind, .string t.text, .int .i64 t.pos]] w fun e w' => e = .returned (.agg #[.int .i64 2, .string ⟨(plainC t.text.data.toList).toArray⟩, .slice none 0 0]) ∧ Below w.heap.size w w' := by
  have D := fun w => digitsOf_any t.text w
  have P := fun w => codePlain_any t.text (by omega) w
  have hd : (digs t.text : Int) ≤ 200 := by omega
  obtain ⟨z, hz⟩ : ∃ z, z = plainC t.text.data.toList := ⟨_, rfl⟩
  rw [← hz] at P ⊢
  have HD := Lib.hid D
  have HP := Lib.hid P
  clear D P h hz
  go_enter Tryd.func55, Tryd.ntmps55
  go_wp2_with fail
  refine (HD.out _).mono ?_
  rintro e w' ⟨rfl, rfl⟩
  go_wp2_with fail
  refine (HP.out _).mono ?_
  rintro e w' ⟨rfl, rfl⟩
  go_wp2
  exact bodyPost_ret (v := .agg #[.int .i64 2, .string ⟨z.toArray⟩, .slice none 0 0]) (by simp [results, Tryd.results55, go_sem]) rfl ⟨rfl, ((Below.refl _ _).alloc (Nat.le_refl _) _).alloc (by simp) _⟩

set_option maxRecDepth 100000 in
set_option maxHeartbeats 1000000 in
theorem next_none (p : Nat) (N : Int) (w : World) (h : PAt w p N []) :
    Calls Tryd.prog 38 #[.pointer (some ⟨p, 0, none⟩)] w fun e w' => e = misfit N 3 ∧ Below w.heap.size w w' := by
  have hlt := h.lt
  obtain ⟨v, h1, h2⟩ := h
  obtain ⟨a, c, rfl⟩ : ∃ a c, v = .slice a 0 c := by
    rcases h2 with ⟨_, a, c, rfl⟩ | ⟨b, off, cap, rfl, _⟩
    · exact ⟨a, c, rfl⟩
    · exact ⟨_, _, rfl⟩
  have c0 : w.cell? ⟨p, 0, none⟩ = some (.slice a 0 c) := by rw [Lib.cell_of_heap h1]; rfl
  have c1 : w.cell? ⟨p, 1, none⟩ = some (.int .i64 N) := by rw [Lib.cell_of_heap h1]; rfl
  clear h1 h2
  go_enter Tryd.func38, Tryd.ntmps38
  go_wp2
  exact ⟨rfl, rfl, (Below.refl _ _).alloc (Nat.le_refl _) _⟩

set_option maxRecDepth 100000 in
set_option maxHeartbeats 2000000 in
theorem next_some (p : Nat) (N : Int) (t : Tok) (r : List Tok) (w : World) (h : PAt w p N (t :: r)) :
    Calls Tryd.prog 38 #[.pointer (some ⟨p, 0, none⟩)] w fun e w' => e = .returned (.agg #[.int .i64 t.kind, .string t.text, .int .i64 t.pos]) ∧ PAt w' p N r ∧ KeepP p w w' := by
  have hlt := h.lt
  obtain ⟨v, h1, h2⟩ := h
  rcases h2 with ⟨e, _⟩ | ⟨b, off, cap, rfl, h3, h4, hbp, h7⟩
  · cases e
  have h5 : b < w.heap.size := by omega
  have h6 : b ≠ p := by omega
  have c0 : w.cell? ⟨p, 0, none⟩ = some (.slice (some ⟨b, off, none⟩) (r.length + 1) cap) := by rw [Lib.cell_of_heap h1]; rfl
  have f0 : w.frozen? ⟨p, 0, none⟩ = false := Lib.frozen_of_heap h1 0
  obtain ⟨d0, d1, d2⟩ := h7 0 (by simp)
  simp only [Nat.zero_mul, Nat.add_zero, List.getD_cons_zero] at d0 d1 d2
  simp only [List.length_cons] at h3 h4
  unfold maxLen at h4
  have H1 := Lib.hid h1
  have H7 := Lib.hid h7
  obtain ⟨n, hn⟩ : ∃ n, n = r.length := ⟨_, rfl⟩
  rw [← hn] at h3 h4 c0
  have HN := Lib.hid hn
  clear h1 h7 hn
  by_cases hcap : cap = 1
  · subst hcap
    go_enter Tryd.func38, Tryd.ntmps38
    go_wp2
    have hT : TokP w p (.slice (some ⟨b, off, none⟩) 0 0) r := .inl ⟨List.length_eq_zero_iff.1 (by have := HN.out; omega), _, _, rfl⟩
    obtain ⟨hP, hK⟩ := PAt.advance H1.out hT (.cells #[.int .i64 t.kind, .string t.text, .int .i64 t.pos] 61) (.cells #[.int .i64 t.kind, .string t.text, .int .i64 t.pos] 61)
    exact bodyPost_ret (v := .agg #[.int .i64 t.kind, .string t.text, .int .i64 t.pos]) (by simp [results, Tryd.results38, go_sem]) rfl ⟨rfl, hP, hK⟩
  · go_enter Tryd.func38, Tryd.ntmps38
    go_wp2
    have hT : TokP w p (.slice (some ⟨b, off + 3, none⟩) n (cap - 1)) r := by
      have hn := HN.out
      refine .inr ⟨b, off + 3, cap - 1, by rw [hn], by omega, by unfold maxLen; omega, hbp, fun j hj => ?_⟩
      have := H7.out (j + 1) (by simp; omega)
      rw [show off + (j + 1) * 3 = off + 3 + j * 3 by omega] at this
      exact this
    obtain ⟨hP, hK⟩ := PAt.advance H1.out hT (.cells #[.int .i64 t.kind, .string t.text, .int .i64 t.pos] 61) (.cells #[.int .i64 t.kind, .string t.text, .int .i64 t.pos] 61)
    exact bodyPost_ret (v := .agg #[.int .i64 t.kind, .string t.text, .int .i64 t.pos]) (by simp [results, Tryd.results38, go_sem]) rfl ⟨rfl, hP, hK⟩

set_option maxRecDepth 100000 in
set_option maxHeartbeats 1000000 in
theorem word_d (s : ByteArray) (hs : s.size ≤ 100000) (w : World) :
    Calls Tryd.prog 19 #[.string s] w fun e w' => e = .returned (.agg #[.int .i64 1, .string s, .slice none 0 0]) ∧ Below w.heap.size w w' := by
  have C := fun w => Tryd.stringslite_Clone s w (by omega)
  have HC := Lib.hid C
  clear C
  go_enter Tryd.func19, Tryd.ntmps19
  go_wp2_with (first | (go_at_call 33; go_in) | (go_at_call 47; refine (HC.out _).mono ?_))
  rintro e w' ⟨rfl, hb⟩
  have HB := Lib.hid hb
  have hsz := hb.size
  simp at hsz
  obtain ⟨hcl, hfr⟩ := bcell hb
  clear hb
  go_wp2
  exact bodyPost_ret (v := .agg #[.int .i64 1, .string s, .slice none 0 0]) (by simp [results, Tryd.results19, go_sem, hcl]) rfl ⟨rfl, (((((Below.refl _ _).alloc (Nat.le_refl _) _).trans (HB.out.mono (by simp))).setCell (by simp) _).setCell (by simp) _).setCell (by simp) _⟩
theorem Tryd.infoDat : (Tryd.prog.info? 30).map (fun i => (i.zero, i.size, i.bytes)) = some (some (.agg #[.int .i64 0, .string ⟨#[]⟩, .slice none 0 0]), 3, 48) := by kernel_rfl

/-- rows of a slice, as cells one by one -/
theorem rows_cells {w : World} {b : Nat} {rs : List Raw} (h : Rows3 w b 0 rs) : ∀ j u, (rawsCells rs)[j]? = some u → w.cell? ((⟨b, 0, none⟩ : Addr).add j) = some u := by
  intro j u hu
  have hj : j < (rawsCells rs).length := by
    rcases Nat.lt_or_ge j (rawsCells rs).length with h' | h'
    · exact h'
    · rw [List.getElem?_eq_none h'] at hu; cases hu
  rw [rawsCells_len] at hj
  have hq : j / 3 < rs.length := by omega
  obtain ⟨h0, h1, h2⟩ := h (j / 3) hq
  obtain ⟨g0, g1, g2⟩ := rawsCells_get rs (j / 3) hq
  rw [add_none]
  have h3 : j % 3 < 3 := Nat.mod_lt _ (by decide)
  have hd : j / 3 * 3 + j % 3 = j := Nat.div_add_mod' j 3
  have : j % 3 = 0 ∨ j % 3 = 1 ∨ j % 3 = 2 := by omega
  rcases this with e | e | e
  · rw [e] at hd
    rw [show j = j / 3 * 3 by omega] at hu ⊢
    rw [g0] at hu
    simp only [Nat.zero_add] at h0
    rw [h0]; exact hu
  · rw [e] at hd
    rw [← hd] at hu ⊢
    rw [show (j / 3 * 3 + 1) = j / 3 * 3 + 1 from rfl] at hu
    rw [g1] at hu
    simp only [Nat.zero_add] at h1
    rw [h1]; exact hu
  · rw [e] at hd
    rw [← hd] at hu ⊢
    rw [g2] at hu
    simp only [Nat.zero_add] at h2
    rw [h2]; exact hu
theorem rawsCells_one (rs : List Raw) (h : ∀ r ∈ rs, ∃ a n c, r.sv = .slice a n c) : ∀ u ∈ rawsCells rs, u.oneCell' = true := by
  intro u hu
  obtain ⟨r, hr, hu⟩ := List.mem_flatMap.1 hu
  obtain ⟨a, n, c, e⟩ := h r hr
  simp only [rawCells, List.mem_cons, List.not_mem_nil, or_false] at hu
  rcases hu with rfl | rfl | rfl
  · rfl
  · rfl
  · rw [e]; rfl

theorem own_base {w : World} {B B' e size n : Nat} {v : Value} {xs : List Value} (h : w.ownsRow B e size v n xs) (hB : B' ≤ B) : w.ownsRow B' e size v n xs := by
  refine ⟨h.1, ?_⟩
  rcases h.2 with h2 | ⟨g, cap, cur, rfl, hg, r⟩
  · exact .inl h2
  · exact .inr ⟨g, cap, cur, rfl, Nat.le_trans hB hg, r⟩

set_option maxRecDepth 100000 in
set_option maxHeartbeats 2000000 in
/-- Row over two data that lie one behind the other -/
theorem row_d (b : Nat) (rs : List Raw) (w : World) (h2 : rs.length = 2) (h : Rows3 w b 0 rs) (h1 : ∀ r ∈ rs, ∃ a n c, r.sv = .slice a n c) :
    Calls Tryd.prog 18 #[.slice (some ⟨b, 0, none⟩) 2 2] w fun e w' => (∃ v, e = .returned (.agg #[.int .i64 5, .string ⟨#[]⟩, v]) ∧ w'.ownsRow w.heap.size 30 3 v 2 (rawsCells rs)) ∧ Below w.heap.size w w' := by
  obtain ⟨i0, hi, hz0, hz1, hz2⟩ := info_parts Tryd.infoDat
  have hc := rows_cells h
  have ho := rawsCells_one rs h1
  have hl := rawsCells_len rs
  obtain ⟨X, hX⟩ : ∃ X, X = rawsCells rs := ⟨_, rfl⟩
  rw [← hX] at hc ho hl ⊢
  rw [h2] at hl
  have hb : b < w.heap.size := by
    obtain ⟨c0, _⟩ := h 0 (by omega)
    exact World.block_lt_of_cell? w _ c0
  have HC := Lib.hid hc
  have HO := Lib.hid ho
  have HL := Lib.hid hl
  clear hc ho hl hX h h1 h2
  go_enter Tryd.func18, Tryd.ntmps18
  go_wp2_with (at_builtin; refine wpList_append_own _ rfl _ _ 23 rfl (w.heap.size + 1) 30 i0 (.agg #[.int .i64 0, .string ⟨#[]⟩, .slice none 0 0]) 3 48 Tryd.underlying23 hi hz0 hz1 hz2 rfl (by decide) _ _ _ rfl (World.ownsRow_nil _ _ _ _) ⟨b, 0, none⟩ 2 2 X rfl ?c0 ?c1 ?c2 ?c3 ?c4 ?c5 ?_)
  case c0 => exact HL.out
  case c1 => intro j u hj; rw [add_none, World.cell?_alloc_past _ _ _ hb]; have := HC.out j u hj; rwa [add_none] at this
  case c2 => exact HO.out
  case c3 => unfold maxLen; omega
  case c4 => omega
  case c5 => simp
  intro v' w1 hown hgrow _
  have hbe : Below (w.heap.size + 1) (w.alloc (.cells #[.int .i64 0, .string ⟨#[]⟩, .slice none 0 0] 30)) w1 := (Below.refl _ _).grown hgrow (by simp) (by intro k hk; cases hk)
  have g0 : w1.cell? ⟨w.heap.size, 0, none⟩ = some (.int .i64 0) := (hbe.cell (p := ⟨_, _, _⟩) (by simp)).trans (by simp [go_sem])
  have g1 : w1.cell? ⟨w.heap.size, 1, none⟩ = some (.string ⟨#[]⟩) := (hbe.cell (p := ⟨_, _, _⟩) (by simp)).trans (by simp [go_sem])
  have g2 : w1.cell? ⟨w.heap.size, 2, none⟩ = some (.slice none 0 0) := (hbe.cell (p := ⟨_, _, _⟩) (by simp)).trans (by simp [go_sem])
  have f0 : w1.frozen? ⟨w.heap.size, 0, none⟩ = false := (hbe.frozen (p := ⟨_, _, _⟩) (by simp)).trans (by simp [go_sem])
  have f1 : w1.frozen? ⟨w.heap.size, 1, none⟩ = false := (hbe.frozen (p := ⟨_, _, _⟩) (by simp)).trans (by simp [go_sem])
  have f2 : w1.frozen? ⟨w.heap.size, 2, none⟩ = false := (hbe.frozen (p := ⟨_, _, _⟩) (by simp)).trans (by simp [go_sem])
  obtain ⟨ao, n', cap', hv'⟩ : ∃ ao n' cap', v' = .slice ao n' cap' := by
    rcases hown.2 with ⟨hv, _⟩ | ⟨g, cap, cur, hv, _⟩
    · exact ⟨_, _, _, hv⟩
    · exact ⟨_, _, _, hv⟩
  subst hv'
  have hown : w1.ownsRow (w.heap.size + 1) 30 3 (.slice ao n' cap') 2 X := hown
  have HOW := Lib.hid hown
  have HBE := Lib.hid (((Below.refl w.heap.size w).alloc (Nat.le_refl _) _).trans (hbe.mono (by omega)))
  clear hown hbe hgrow
  go_wp2
  refine bodyPost_ret (v := .agg #[.int .i64 5, .string ⟨#[]⟩, .slice ao n' cap']) (by simp [results, Tryd.results18, go_sem, g0, g1, g2]) rfl ⟨⟨_, rfl, ?_⟩, ((HBE.out.setCell (by simp) _).setCell (by simp) _).setCell (by simp) _⟩
  exact own_base (ownsRow_setCell_below (ownsRow_setCell_below (ownsRow_setCell_below HOW.out (by simp) _) (by simp) _) (by simp) _) (by omega)
end Go.Proofs.YtghgjefobfaodaaDoor

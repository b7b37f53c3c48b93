import Derived.Test.YtlalnkabfigodaaDoorCoP
import Derived.Deep.Slices
import Derived.WalkKit
import Derived.WalkSpells
import Derived.WalkLawsBesides
import Derived.BigQuiet
import Derived.Deep.QuietTactic
import Derived.Outline
import Derived.Lib.Hide
import Derived.Lib.Builder
import Derived.Deep.AppendLies
import Derived.Deep.CutRange
import Derived.StillTailTactics
namespace Go.Proofs.YtlalnkabfigodaaDoor
open Go.RowKit

/-- a coercion, as it lies in twelve cells -/
structure RawC where
 h : Hd
 pv : Value
 fv : Value
def rawc0 : RawC := ⟨hd0, .slice none 0 0, .slice none 0 0⟩
def coV (r : RawC) : Value := .agg #[.int .i64 r.h.f0, .int .i64 r.h.f1, .int .i64 r.h.f2, .int .i64 r.h.f3, .int .i64 r.h.f4, .int .i64 r.h.f5, .int .i64 r.h.pair, .int .i64 r.h.pl, r.pv, .int .i64 r.h.fn, .int .i64 r.h.fl, r.fv]
def coCells (r : RawC) : List Value := [.int .i64 r.h.f0, .int .i64 r.h.f1, .int .i64 r.h.f2, .int .i64 r.h.f3, .int .i64 r.h.f4, .int .i64 r.h.f5, .int .i64 r.h.pair, .int .i64 r.h.pl, r.pv, .int .i64 r.h.fn, .int .i64 r.h.fl, r.fv]
def cosCells (l : List RawC) : List Value := l.flatMap coCells
theorem cosCells_app (l m : List RawC) : cosCells (l ++ m) = cosCells l ++ cosCells m := by simp [cosCells]
theorem cosCells_len (l : List RawC) : (cosCells l).length = l.length * 12 := by
 induction l with
 | nil => rfl
 | cons t r ih =>
  have e : cosCells (t :: r) = coCells t ++ cosCells r := rfl
  rw [e, List.length_append, ih, List.length_cons]; simp only [coCells, List.length_cons, List.length_nil]; omega
theorem cosCells_get (l : List RawC) (j i : Nat) (hj : j < l.length) (hi : i < 12) : (cosCells l)[j * 12 + i]? = (coCells (l.getD j rawc0))[i]? := by
 induction l generalizing j with
 | nil => simp at hj
 | cons t r ih =>
  have e : cosCells (t :: r) = coCells t ++ cosCells r := rfl
  cases j with
  | zero => rw [e, List.getElem?_append_left (by simp [coCells]; omega), Nat.zero_mul, Nat.zero_add]; rfl
  | succ j =>
   have := ih j (by simpa using hj)
   rw [e, show (j + 1) * 12 + i = j * 12 + i + 12 by omega, List.getElem?_append_right (by simp [coCells])]
   simpa [coCells] using this
/-- twelve cells at an address -/
def CellsC (w : World) (b off : Nat) (r : RawC) : Prop := ∀ i, i < 12 → w.cell? ⟨b, off + i, none⟩ = (coCells r)[i]?
def RowsC (w : World) (b off : Nat) (rs : List RawC) : Prop := ∀ j, j < rs.length → CellsC w b (off + j * 12) (rs.getD j rawc0)
/-- a slice of coercions, as it lies in blocks for which ok holds -/
inductive CoS (w : World) (ok : Nat → Prop) : Value → List Co → Prop
 | mkNil (a : Option Addr) (c : Nat) : CoS w ok (.slice a 0 c) []
 | mkSome (b off cap n : Nat) (rs : List RawC) (l : List Co) : ok b → n = l.length → rs.length = l.length → n ≤ maxLen ∧ n ≤ cap → RowsC w b off rs →
   (∀ j, j < l.length → (rs.getD j rawc0).h = (l.getD j co0).h) →
   (∀ j, j < l.length → CoS w ok (rs.getD j rawc0).pv (l.getD j co0).pairs) → (∀ j, j < l.length → CoS w ok (rs.getD j rawc0).fv (l.getD j co0).funs) → CoS w ok (.slice (some ⟨b, off, none⟩) n cap) l
/-- twelve cells are a coercion -/
structure RawCo (w : World) (ok : Nat → Prop) (r : RawC) (c : Co) : Prop where
 h : r.h = c.h
 pv : CoS w ok r.pv c.pairs
 fv : CoS w ok r.fv c.funs
def RawsCo (w : World) (ok : Nat → Prop) (rs : List RawC) (l : List Co) : Prop := rs.length = l.length ∧ ∀ j, j < l.length → RawCo w ok (rs.getD j rawc0) (l.getD j co0)
theorem CoS.inv {w : World} {ok : Nat → Prop} {v : Value} {l : List Co} (h : CoS w ok v l) :
  (l = [] ∧ ∃ a c, v = .slice a 0 c) ∨ ∃ b off cap rs, v = .slice (some ⟨b, off, none⟩) l.length cap ∧ ok b ∧ l.length ≤ maxLen ∧ RowsC w b off rs ∧ RawsCo w ok rs l := by
 cases h with
 | mkNil a c => exact .inl ⟨rfl, a, c, rfl⟩
 | mkSome b off cap n rs _ h1 h2 h3 h4 h5 h6 h7 h8 =>
  subst h2
  exact .inr ⟨b, off, cap, rs, rfl, h1, h4.1, h5, h3, fun j hj => ⟨h6 j hj, h7 j hj, h8 j hj⟩⟩
theorem CoS.mk {w : World} {ok : Nat → Prop} {l : List Co} {b off cap : Nat} {rs : List RawC} (h1 : ok b) (h4 : l.length ≤ maxLen) (h5 : RowsC w b off rs) (h6 : RawsCo w ok rs l) (h7 : l.length ≤ cap) :
  CoS w ok (.slice (some ⟨b, off, none⟩) l.length cap) l :=
 CoS.mkSome b off cap _ rs l h1 rfl h6.1 ⟨h4, h7⟩ h5 (fun j hj => (h6.2 j hj).h) (fun j hj => (h6.2 j hj).pv) (fun j hj => (h6.2 j hj).fv)
/-- a slice has room for what is in it -/
theorem CoS.room {w : World} {ok : Nat → Prop} {a : Option Addr} {n c : Nat} {l : List Co} (h : CoS w ok (.slice a n c) l) : l.length ≤ c := by
 cases h with
 | mkNil a c => exact Nat.zero_le _
 | mkSome b off cap n rs _ h1 h2 h3 h4 h5 h6 h7 h8 => rw [← h2]; exact h4.2
theorem CellsC.mono {w w' : World} {b off : Nat} {r : RawC} (h : CellsC w b off r) (hc : ∀ o, w'.cell? ⟨b, o, none⟩ = w.cell? ⟨b, o, none⟩) : CellsC w' b off r := fun i hi => (hc _).trans (h i hi)
theorem RowsC.mono {w w' : World} {b off : Nat} {rs : List RawC} (h : RowsC w b off rs) (hc : ∀ o, w'.cell? ⟨b, o, none⟩ = w.cell? ⟨b, o, none⟩) : RowsC w' b off rs := fun j hj => (h j hj).mono hc
theorem CoS.mono {w w' : World} {ok ok' : Nat → Prop} (ho : ∀ b, ok b → ok' b) (hc : ∀ b o, ok b → w'.cell? ⟨b, o, none⟩ = w.cell? ⟨b, o, none⟩) {v : Value} {l : List Co} (h : CoS w ok v l) : CoS w' ok' v l := by
 induction h with
 | mkNil a c => exact .mkNil a c
 | mkSome b off cap n rs l h1 h2 h3 h4 h5 h6 _ _ ih ih' => exact CoS.mkSome b off cap n rs l (ho b h1) h2 h3 h4 (h5.mono fun o => hc b o h1) h6 ih ih'
theorem RawCo.mono {w w' : World} {ok ok' : Nat → Prop} (ho : ∀ b, ok b → ok' b) (hc : ∀ b o, ok b → w'.cell? ⟨b, o, none⟩ = w.cell? ⟨b, o, none⟩) {r : RawC} {c : Co} (h : RawCo w ok r c) : RawCo w' ok' r c :=
 ⟨h.1, h.2.mono ho hc, h.3.mono ho hc⟩
theorem RawsCo.mono {w w' : World} {ok ok' : Nat → Prop} (ho : ∀ b, ok b → ok' b) (hc : ∀ b o, ok b → w'.cell? ⟨b, o, none⟩ = w.cell? ⟨b, o, none⟩) {rs : List RawC} {l : List Co} (h : RawsCo w ok rs l) : RawsCo w' ok' rs l :=
 ⟨h.1, fun j hj => (h.2 j hj).mono ho hc⟩
theorem CoS.val {w : World} {ok : Nat → Prop} {v : Value} {l : List Co} (h : CoS w ok v l) : ∃ a c, v = .slice a l.length c := by
 rcases h.inv with ⟨rfl, a, c, rfl⟩ | ⟨b, off, cap, rs, rfl, _⟩
 ·
  exact ⟨a, c, rfl⟩
 ·
  exact ⟨_, _, rfl⟩
theorem CoS.len {w : World} {ok : Nat → Prop} {v : Value} {l : List Co} (h : CoS w ok v l) : l.length ≤ maxLen := by
 rcases h.inv with ⟨rfl, a, c, rfl⟩ | ⟨b, off, cap, rs, rfl, _, h, _⟩
 ·
  exact Nat.zero_le _
 ·
  exact h
/-- blocks that are there, and none of N -/
def Lc (N : Nat → Prop) (w : World) (b : Nat) : Prop := b < w.heap.size ∧ ¬ N b
def NC : Nat → Prop := fun _ => False
/-- a value of type C that lies in no block of N -/
def CoVN (N : Nat → Prop) (w : World) (v : Value) (c : Co) : Prop := ∃ r, v = coV r ∧ RawCo w (Lc N w) r c
def CoV (w : World) (v : Value) (c : Co) : Prop := CoVN NC w v c
section
variable {N M : Nat → Prop} {w w' : World} {v : Value} {c : Co} {l : List Co}
theorem CoVN.mono (h : CoVN N w v c) (hNM : ∀ b, b < w.heap.size → M b → N b) : CoVN M w v c := by
 obtain ⟨r, hv, h⟩ := h
 exact ⟨r, hv, h.mono (fun b h => ⟨h.1, fun hm => h.2 (hNM b h.1 hm)⟩) fun _ _ _ => rfl⟩
theorem CoVN.cv (h : CoVN N w v c) : CoV w v c := h.mono fun _ _ h => h.elim
theorem CoVN.below (h : CoVN N w v c) (hb : Below w.heap.size w w') : CoVN N w' v c := by
 obtain ⟨r, hv, h⟩ := h
 exact ⟨r, hv, h.mono (fun b h => ⟨Nat.lt_of_lt_of_le h.1 hb.size, h.2⟩) fun _ _ h => hb.cell (p := ⟨_, _, none⟩) h.1⟩
/-- with what is made later left out as well -/
theorem CoVN.later (h : CoVN N w v c) (hb : Below w.heap.size w w') (hM : ∀ b, M b → N b ∨ w.heap.size ≤ b) : CoVN M w' v c :=
 (h.mono fun b hlt hm => (hM b hm).resolve_right (by omega)).below hb
theorem Lc.set {k : Nat} (x : Addr × Value) (hk : x.1.block = k) (hN : N k) {b : Nat} (h : Lc N w b) : Lc N (w.setCell x.1 x.2) b ∧ ∀ o, (w.setCell x.1 x.2).cell? ⟨b, o, none⟩ = w.cell? ⟨b, o, none⟩ := by
 have hne : b ≠ x.1.block := fun e => h.2 (by rw [e, hk]; exact hN)
 refine ⟨⟨by simpa [World.setCell] using h.1, h.2⟩, fun o => ?_⟩
 simp only [World.cell?, Below.heap_setCell w x.1 x.2 b hne]
theorem CoVN.set (h : CoVN N w v c) (p : Addr) (hp : N p.block) (x : Value) : CoVN N (w.setCell p x) v c := by
 obtain ⟨r, hv, h⟩ := h
 exact ⟨r, hv, h.mono (fun _ hb => (Lc.set (p, x) rfl hp hb).1) fun _ o hb => (Lc.set (p, x) rfl hp hb).2 o⟩
theorem CoSN.set (h : CoS w (Lc N w) v l) (p : Addr) (hp : N p.block) (x : Value) : CoS (w.setCell p x) (Lc N (w.setCell p x)) v l :=
 h.mono (fun _ hb => (Lc.set (p, x) rfl hp hb).1) fun _ o hb => (Lc.set (p, x) rfl hp hb).2 o
theorem CoSN.below (h : CoS w (Lc N w) v l) (hb : Below w.heap.size w w') : CoS w' (Lc N w') v l :=
 h.mono (fun _ h => ⟨Nat.lt_of_lt_of_le h.1 hb.size, h.2⟩) fun _ _ h => hb.cell (p := ⟨_, _, none⟩) h.1
theorem CoSN.mono (h : CoS w (Lc N w) v l) (hNM : ∀ b, b < w.heap.size → M b → N b) : CoS w (Lc M w) v l :=
 CoS.mono (fun b h => ⟨h.1, fun hm => h.2 (hNM b h.1 hm)⟩) (fun _ _ _ => rfl) h
theorem CoSN.later (h : CoS w (Lc N w) v l) (hb : Below w.heap.size w w') (hM : ∀ b, M b → N b ∨ w.heap.size ≤ b) : CoS w' (Lc M w') v l :=
 CoSN.below (CoSN.mono h fun b hlt hm => (hM b hm).resolve_right (by omega)) hb
theorem CoVN.form (h : CoVN N w v c) : ∃ pa pc fa fc, v = .agg #[.int .i64 c.h.f0, .int .i64 c.h.f1, .int .i64 c.h.f2, .int .i64 c.h.f3, .int .i64 c.h.f4, .int .i64 c.h.f5, .int .i64 c.h.pair, .int .i64 c.h.pl, .slice pa c.pairs.length pc, .int .i64 c.h.fn, .int .i64 c.h.fl, .slice fa c.funs.length fc] ∧
  CoS w (Lc N w) (.slice pa c.pairs.length pc) c.pairs ∧ CoS w (Lc N w) (.slice fa c.funs.length fc) c.funs := by
 obtain ⟨⟨h0, pv, fv⟩, rfl, h1, h5, h6⟩ := h
 simp only at h1 h5 h6
 obtain ⟨pa, pc, rfl⟩ := h5.val
 obtain ⟨fa, fc, rfl⟩ := h6.val
 subst h1
 exact ⟨pa, pc, fa, fc, rfl, h5, h6⟩
theorem CoVN.mk {h : Hd} {pv fv : Value} {ps fs : List Co} (hp : CoS w (Lc N w) pv ps) (hf : CoS w (Lc N w) fv fs) : CoVN N w (.agg #[.int .i64 h.f0, .int .i64 h.f1, .int .i64 h.f2, .int .i64 h.f3, .int .i64 h.f4, .int .i64 h.f5, .int .i64 h.pair, .int .i64 h.pl, pv, .int .i64 h.fn, .int .i64 h.fl, fv]) (.mk h ps fs) := ⟨⟨h, pv, fv⟩, rfl, rfl, hp, hf⟩
theorem co0_v (N : Nat → Prop) (w : World) : CoVN N w (.agg #[.int .i64 0, .int .i64 0, .int .i64 0, .int .i64 0, .int .i64 0, .int .i64 0, .int .i64 0, .int .i64 0, .slice none 0 0, .int .i64 0, .int .i64 0, .slice none 0 0]) co0 := CoVN.mk (h := hd0) (.mkNil _ _) (.mkNil _ _)
theorem CoS.at {ok : Nat → Prop} {pa : Option Addr} {n k : Nat} (h : CoS w ok (.slice pa n k) l) {j : Nat} (hj : j < l.length) :
  ∃ b off r, pa = some ⟨b, off, none⟩ ∧ ok b ∧ CellsC w b (off + j * 12) r ∧ RawCo w ok r (l.getD j co0) := by
 rcases h.inv with ⟨rfl, _⟩ | ⟨b, off, cap, rs, e, hb, _, hc, hr⟩
 ·
  simp at hj
 ·
  cases e
  exact ⟨b, off, _, rfl, hb, hc j (by rw [hr.1]; exact hj), hr.2 j hj⟩
/-- an element's twelve cells, and the coercion that they are -/
theorem CoSN.elem {pa : Option Addr} {n k : Nat} {d : Co} (h : CoS w (Lc N w) (.slice pa n k) l) {j : Nat} (hj : j < l.length) (hd : l.getD j co0 = d) :
  ∃ b off p1 c1 p2 c2, pa = some ⟨b, off, none⟩ ∧ b < w.heap.size ∧ (w.cell? ⟨b, off + j * 12, none⟩ = some (.int .i64 d.h.f0) ∧ w.cell? ⟨b, off + j * 12 + 1, none⟩ = some (.int .i64 d.h.f1) ∧ w.cell? ⟨b, off + j * 12 + 2, none⟩ = some (.int .i64 d.h.f2) ∧ w.cell? ⟨b, off + j * 12 + 3, none⟩ = some (.int .i64 d.h.f3) ∧ w.cell? ⟨b, off + j * 12 + 4, none⟩ = some (.int .i64 d.h.f4) ∧ w.cell? ⟨b, off + j * 12 + 5, none⟩ = some (.int .i64 d.h.f5) ∧ w.cell? ⟨b, off + j * 12 + 6, none⟩ = some (.int .i64 d.h.pair) ∧ w.cell? ⟨b, off + j * 12 + 7, none⟩ = some (.int .i64 d.h.pl) ∧ w.cell? ⟨b, off + j * 12 + 8, none⟩ = some (.slice p1 d.pairs.length c1) ∧ w.cell? ⟨b, off + j * 12 + 9, none⟩ = some (.int .i64 d.h.fn) ∧ w.cell? ⟨b, off + j * 12 + 10, none⟩ = some (.int .i64 d.h.fl) ∧ w.cell? ⟨b, off + j * 12 + 11, none⟩ = some (.slice p2 d.funs.length c2)) ∧
   CoVN N w (.agg #[.int .i64 d.h.f0, .int .i64 d.h.f1, .int .i64 d.h.f2, .int .i64 d.h.f3, .int .i64 d.h.f4, .int .i64 d.h.f5, .int .i64 d.h.pair, .int .i64 d.h.pl, .slice p1 d.pairs.length c1, .int .i64 d.h.fn, .int .i64 d.h.fl, .slice p2 d.funs.length c2]) d := by
 obtain ⟨b, off, r, hp, hb, hc, hr⟩ := h.at hj
 rw [hd] at hr
 obtain ⟨hh, pv, fv⟩ := r
 obtain ⟨h1, h5, h6⟩ := hr
 simp only at h1 h5 h6
 obtain ⟨p1, c1, rfl⟩ := h5.val
 obtain ⟨p2, c2, rfl⟩ := h6.val
 subst h1
 exact ⟨b, off, p1, c1, p2, c2, hp, hb.1, ⟨hc 0 (by omega), hc 1 (by omega), hc 2 (by omega), hc 3 (by omega), hc 4 (by omega), hc 5 (by omega), hc 6 (by omega), hc 7 (by omega), hc 8 (by omega), hc 9 (by omega), hc 10 (by omega), hc 11 (by omega)⟩, ⟨⟨d.h, _, _⟩, rfl, rfl, h5, h6⟩⟩
end
/-- a variable of type C, in a block of its own -/
def CBox (w : World) (g : Nat) (T : TypeId) (r : RawC) : Prop := w.heap[g]? = some (.cells #[.int .i64 r.h.f0, .int .i64 r.h.f1, .int .i64 r.h.f2, .int .i64 r.h.f3, .int .i64 r.h.f4, .int .i64 r.h.f5, .int .i64 r.h.pair, .int .i64 r.h.pl, r.pv, .int .i64 r.h.fn, .int .i64 r.h.fl, r.fv] T (0, 0))
section
variable {w w' : World} {g B : Nat} {T : TypeId} {r : RawC}
theorem CBox.c (h : CBox w g T r) (i : Nat) : w.cell? ⟨g, i, none⟩ = (coCells r)[i]? := by
 have := Lib.cell_of_heap h i
 rw [this]
 simp [coCells]
theorem CBox.fr (h : CBox w g T r) (j : Nat) : w.frozen? ⟨g, j, none⟩ = false := Lib.frozen_of_heap h j
theorem CBox.lt (h : CBox w g T r) : g < w.heap.size := (Array.getElem?_eq_some_iff.1 h).1
theorem CBox.under (h : CBox w g T r) (hb : Below B w w') (hg : g < B) : CBox w' g T r := (hb.block g hg).trans h
theorem CBox.keep (h : CBox w g T r) (hb : Below w.heap.size w w') : CBox w' g T r := h.under hb h.lt
theorem CBox.other {m i : Nat} {x : Value} (h : CBox w g T r) (hm : g ≠ m) : CBox (w.setCell ⟨m, i, none⟩ x) g T r := by
 unfold CBox at *
 simp [World.setCell, Array.getElem?_modify, h, hm.symm]
theorem CBox.c0 (h : CBox w g T r) : w.cell? ⟨g, 0, none⟩ = some (.int .i64 r.h.f0) := h.c 0
theorem CBox.s0 {x : Int} (h : CBox w g T r) : CBox (w.setCell ⟨g, 0, none⟩ (.int .i64 x)) g T { r with h := { r.h with f0 := x } } := by
 unfold CBox at *
 simp [World.setCell, Array.getElem?_modify, h]
theorem CBox.c1 (h : CBox w g T r) : w.cell? ⟨g, 1, none⟩ = some (.int .i64 r.h.f1) := h.c 1
theorem CBox.s1 {x : Int} (h : CBox w g T r) : CBox (w.setCell ⟨g, 1, none⟩ (.int .i64 x)) g T { r with h := { r.h with f1 := x } } := by
 unfold CBox at *
 simp [World.setCell, Array.getElem?_modify, h]
theorem CBox.c2 (h : CBox w g T r) : w.cell? ⟨g, 2, none⟩ = some (.int .i64 r.h.f2) := h.c 2
theorem CBox.s2 {x : Int} (h : CBox w g T r) : CBox (w.setCell ⟨g, 2, none⟩ (.int .i64 x)) g T { r with h := { r.h with f2 := x } } := by
 unfold CBox at *
 simp [World.setCell, Array.getElem?_modify, h]
theorem CBox.c3 (h : CBox w g T r) : w.cell? ⟨g, 3, none⟩ = some (.int .i64 r.h.f3) := h.c 3
theorem CBox.s3 {x : Int} (h : CBox w g T r) : CBox (w.setCell ⟨g, 3, none⟩ (.int .i64 x)) g T { r with h := { r.h with f3 := x } } := by
 unfold CBox at *
 simp [World.setCell, Array.getElem?_modify, h]
theorem CBox.c4 (h : CBox w g T r) : w.cell? ⟨g, 4, none⟩ = some (.int .i64 r.h.f4) := h.c 4
theorem CBox.s4 {x : Int} (h : CBox w g T r) : CBox (w.setCell ⟨g, 4, none⟩ (.int .i64 x)) g T { r with h := { r.h with f4 := x } } := by
 unfold CBox at *
 simp [World.setCell, Array.getElem?_modify, h]
theorem CBox.c5 (h : CBox w g T r) : w.cell? ⟨g, 5, none⟩ = some (.int .i64 r.h.f5) := h.c 5
theorem CBox.s5 {x : Int} (h : CBox w g T r) : CBox (w.setCell ⟨g, 5, none⟩ (.int .i64 x)) g T { r with h := { r.h with f5 := x } } := by
 unfold CBox at *
 simp [World.setCell, Array.getElem?_modify, h]
theorem CBox.c6 (h : CBox w g T r) : w.cell? ⟨g, 6, none⟩ = some (.int .i64 r.h.pair) := h.c 6
theorem CBox.s6 {x : Int} (h : CBox w g T r) : CBox (w.setCell ⟨g, 6, none⟩ (.int .i64 x)) g T { r with h := { r.h with pair := x } } := by
 unfold CBox at *
 simp [World.setCell, Array.getElem?_modify, h]
theorem CBox.c7 (h : CBox w g T r) : w.cell? ⟨g, 7, none⟩ = some (.int .i64 r.h.pl) := h.c 7
theorem CBox.s7 {x : Int} (h : CBox w g T r) : CBox (w.setCell ⟨g, 7, none⟩ (.int .i64 x)) g T { r with h := { r.h with pl := x } } := by
 unfold CBox at *
 simp [World.setCell, Array.getElem?_modify, h]
theorem CBox.c8 (h : CBox w g T r) : w.cell? ⟨g, 8, none⟩ = some r.pv := h.c 8
theorem CBox.s8 {x : Value} (h : CBox w g T r) : CBox (w.setCell ⟨g, 8, none⟩ x) g T { r with pv := x } := by
 unfold CBox at *
 simp [World.setCell, Array.getElem?_modify, h]
theorem CBox.c9 (h : CBox w g T r) : w.cell? ⟨g, 9, none⟩ = some (.int .i64 r.h.fn) := h.c 9
theorem CBox.s9 {x : Int} (h : CBox w g T r) : CBox (w.setCell ⟨g, 9, none⟩ (.int .i64 x)) g T { r with h := { r.h with fn := x } } := by
 unfold CBox at *
 simp [World.setCell, Array.getElem?_modify, h]
theorem CBox.c10 (h : CBox w g T r) : w.cell? ⟨g, 10, none⟩ = some (.int .i64 r.h.fl) := h.c 10
theorem CBox.s10 {x : Int} (h : CBox w g T r) : CBox (w.setCell ⟨g, 10, none⟩ (.int .i64 x)) g T { r with h := { r.h with fl := x } } := by
 unfold CBox at *
 simp [World.setCell, Array.getElem?_modify, h]
theorem CBox.c11 (h : CBox w g T r) : w.cell? ⟨g, 11, none⟩ = some r.fv := h.c 11
theorem CBox.s11 {x : Value} (h : CBox w g T r) : CBox (w.setCell ⟨g, 11, none⟩ x) g T { r with fv := x } := by
 unfold CBox at *
 simp [World.setCell, Array.getElem?_modify, h]
end
theorem CBox.made (w : World) (T : TypeId) (r : RawC) : CBox (w.alloc (.cells #[.int .i64 r.h.f0, .int .i64 r.h.f1, .int .i64 r.h.f2, .int .i64 r.h.f3, .int .i64 r.h.f4, .int .i64 r.h.f5, .int .i64 r.h.pair, .int .i64 r.h.pl, r.pv, .int .i64 r.h.fn, .int .i64 r.h.fl, r.fv] T)) w.heap.size T r := heap_alloc_new _ _
theorem addc_none (g i : Nat) : (⟨g, 0, none⟩ : Addr).add i = ⟨g, i, none⟩ := by unfold Addr.add; split <;> simp_all
/-- a slice of the call's own -/
theorem CoS.of_own {w : World} {ok : Nat → Prop} {B e : Nat} {v : Value} {rs : List RawC} {l : List Co} (h : w.ownsRow B e 12 v rs.length (cosCells rs)) (hm : l.length ≤ maxLen) (hg : ∀ g, v.ownBlock = some g → ok g) (hr : RawsCo w ok rs l) : CoS w ok v l := by
 have hc := @World.ownsRow.cells _ _ _ _ _ _ _ h
 have hlen := hr.1
 rcases h.2 with ⟨rfl, h0⟩ | ⟨g, cap, cur, rfl, _, _, hle, _⟩
 ·
  obtain rfl := List.length_eq_zero_iff.1 (hlen.symm.trans h0)
  exact .mkNil _ _
 ·
  rw [hlen] at hle ⊢
  refine .mk (hg g rfl) hm (fun j hj i hi => ?_) hr hle
  have hx := cosCells_get rs j i hj hi
  have hi2 : i < (coCells (rs.getD j rawc0)).length := by simp only [coCells, List.length_cons, List.length_nil]; omega
  rw [List.getElem?_eq_getElem hi2] at hx ⊢
  have := hc (g := g) rfl (j * 12 + i) _ hx
  rw [addc_none] at this
  rw [Nat.zero_add]; exact this
theorem RawsCo.snoc {w : World} {ok : Nat → Prop} {rs : List RawC} {l : List Co} {r : RawC} {d : Co} (h : RawsCo w ok rs l) (h' : RawCo w ok r d) : RawsCo w ok (rs ++ [r]) (l ++ [d]) := by
 refine ⟨by simp [h.1], fun j hj => ?_⟩
 have hl := h.1
 simp only [List.length_append, List.length_cons, List.length_nil] at hj
 by_cases hlt : j < l.length
 ·
  have := h.2 j hlt
  simpa [List.getD_eq_getElem?_getD, List.getElem?_append_left, hlt, hl] using this
 ·
  obtain rfl : j = l.length := by omega
  rw [← hl]
  simpa [List.getD_eq_getElem?_getD, hl] using h'
theorem RawsCo.none (w : World) (ok : Nat → Prop) : RawsCo w ok [] [] := ⟨rfl, fun j hj => by simp at hj⟩
/-- a row of coercions that is being built -/
def RowC (T : TypeId) (N : Nat → Prop) (B : Nat) (w : World) (v : Value) (l : List Co) : Prop :=
 ∃ rs, w.ownsRow B T 12 v l.length (cosCells rs) ∧ RawsCo w (fun b => Lc N w b ∧ v.ownBlock ≠ some b) rs l
section
variable {T : TypeId} {N : Nat → Prop} {B : Nat} {w w' w1 : World} {v : Value} {l : List Co}
theorem RowC.nil : RowC T N B w (.slice none 0 0) [] := ⟨[], World.ownsRow_nil _ _ _ _, RawsCo.none _ _⟩
theorem RowC.val (h : RowC T N B w v l) : ∃ a c, v = .slice a l.length c := by
 obtain ⟨rs, ⟨_, h⟩, _⟩ := h
 rcases h with ⟨rfl, h0⟩ | ⟨g, cap, cur, rfl, _⟩
 ·
  exact ⟨none, 0, by rw [h0]⟩
 ·
  exact ⟨_, _, rfl⟩
theorem RowC.below (h : RowC T N B w v l) (hb : Below w.heap.size w w') : RowC T N B w' v l := by
 obtain ⟨rs, ho, hr⟩ := h
 refine ⟨rs, ?_, hr.mono (fun b h => ⟨⟨Nat.lt_of_lt_of_le h.1.1 hb.size, h.1.2⟩, h.2⟩) fun b o h => hb.cell (p := ⟨_, _, none⟩) h.1.1⟩
 obtain ⟨h1, h2⟩ := ho
 refine ⟨h1, ?_⟩
 rcases h2 with h2 | ⟨g, cap, cur, hv, hg, hh, r⟩
 ·
  exact .inl h2
 ·
  exact .inr ⟨g, cap, cur, hv, hg, (hb.block g (Array.getElem?_eq_some_iff.1 hh).1).trans hh, r⟩
theorem RowC.done (h : RowC T N B w v l) (hN : ∀ b, N b → b < B) (hl : l.length ≤ maxLen) : CoS w (Lc N w) v l := by
 obtain ⟨rs, ho, hr⟩ := h
 rw [← hr.1] at ho
 refine CoS.of_own ho hl (fun g hg => ?_) (hr.mono (fun b h => h.1) fun _ _ _ => rfl)
 have := ho.lt g hg
 exact ⟨this.2, fun e => by have := hN g e; omega⟩
/-- one coercion more -/
theorem rowc_push {rs : List RawC} {r : RawC} {d : Co} {o : Obj} {g cap : Nat} (hraw : RawsCo w (fun b => Lc N w b ∧ v.ownBlock ≠ some b) rs l) (hr : RawCo w (fun b => Lc N w b ∧ v.ownBlock ≠ some b) r d)
  (hgrow : (w.alloc o).grownBy w1 v.ownBlock) (hlies : v.ownBlock = some g ∨ g = w.heap.size + 1)
  (hown : w1.ownsRow B T 12 (.slice (some ⟨g, 0, none⟩) (l.length + 1) cap) (l.length + 1) (cosCells rs ++ coCells r)) : RowC T N B w1 (.slice (some ⟨g, 0, none⟩) (l.length + 1) cap) (l ++ [d]) := by
 have hsz := hgrow.size
 have ha : (w.alloc o).heap.size = w.heap.size + 1 := by simp
 rw [ha] at hsz
 have hc : ∀ b o', Lc N w b ∧ v.ownBlock ≠ some b → w1.cell? ⟨b, o', none⟩ = w.cell? ⟨b, o', none⟩ := fun b o' h => by
  refine World.cell?_of_block ?_
  rw [hgrow.block b (by rw [ha]; have := h.1.1; omega) (fun e => h.2 e.symm)]
  exact Below.heap_alloc w o b h.1.1
 have hok : ∀ b, Lc N w b ∧ v.ownBlock ≠ some b → Lc N w1 b ∧ (Value.slice (some ⟨g, 0, none⟩) (l.length + 1) cap).ownBlock ≠ some b := fun b h => by
  refine ⟨⟨by have := h.1.1; omega, h.1.2⟩, fun e => ?_⟩
  simp only [Value.ownBlock, Option.some.injEq] at e
  rcases hlies with h' | h'
  ·
   exact h.2 (by rw [h', e])
  ·
   have := h.1.1; omega
 refine ⟨rs ++ [r], ?_, (hraw.mono hok hc).snoc (hr.mono hok hc)⟩
 rw [List.length_append, cosCells_app]
 exact hown
end
/-- a coercion handed back -/
def CoPost (N : Nat → Prop) (c : Co) (w : World) (e : Ending) (w' : World) : Prop := (∃ v, e = .returned v ∧ CoVN N w' v c) ∧ Below w.heap.size w w'
/-- all cells of a box at once -/
theorem CBox.cs {w : World} {g : Nat} {T : TypeId} {r : RawC} (h : CBox w g T r) : w.cell? ⟨g, 0, none⟩ = some (.int .i64 r.h.f0) ∧ w.cell? ⟨g, 1, none⟩ = some (.int .i64 r.h.f1) ∧ w.cell? ⟨g, 2, none⟩ = some (.int .i64 r.h.f2) ∧ w.cell? ⟨g, 3, none⟩ = some (.int .i64 r.h.f3) ∧ w.cell? ⟨g, 4, none⟩ = some (.int .i64 r.h.f4) ∧ w.cell? ⟨g, 5, none⟩ = some (.int .i64 r.h.f5) ∧ w.cell? ⟨g, 6, none⟩ = some (.int .i64 r.h.pair) ∧ w.cell? ⟨g, 7, none⟩ = some (.int .i64 r.h.pl) ∧ w.cell? ⟨g, 8, none⟩ = some (r.pv) ∧ w.cell? ⟨g, 9, none⟩ = some (.int .i64 r.h.fn) ∧ w.cell? ⟨g, 10, none⟩ = some (.int .i64 r.h.fl) ∧ w.cell? ⟨g, 11, none⟩ = some (r.fv) := ⟨h.c0, h.c1, h.c2, h.c3, h.c4, h.c5, h.c6, h.c7, h.c8, h.c9, h.c10, h.c11⟩
theorem CBox.frs {w : World} {g : Nat} {T : TypeId} {r : RawC} (h : CBox w g T r) : w.frozen? ⟨g, 0, none⟩ = false ∧ w.frozen? ⟨g, 1, none⟩ = false ∧ w.frozen? ⟨g, 2, none⟩ = false ∧ w.frozen? ⟨g, 3, none⟩ = false ∧ w.frozen? ⟨g, 4, none⟩ = false ∧ w.frozen? ⟨g, 5, none⟩ = false ∧ w.frozen? ⟨g, 6, none⟩ = false ∧ w.frozen? ⟨g, 7, none⟩ = false ∧ w.frozen? ⟨g, 8, none⟩ = false ∧ w.frozen? ⟨g, 9, none⟩ = false ∧ w.frozen? ⟨g, 10, none⟩ = false ∧ w.frozen? ⟨g, 11, none⟩ = false := ⟨h.fr 0, h.fr 1, h.fr 2, h.fr 3, h.fr 4, h.fr 5, h.fr 6, h.fr 7, h.fr 8, h.fr 9, h.fr 10, h.fr 11⟩
end Go.Proofs.YtlalnkabfigodaaDoor

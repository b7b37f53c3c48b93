import Derived.Test.YtlalnkabfigodaaDoorTyP
import Derived.Test.YtlalnkabfigodaaDoorRows
import Derived.Deep.Slices
import Derived.WalkKit
import Derived.WalkSpells
import Derived.WalkLawsBesides
import Derived.BigQuiet
import Derived.Deep.QuietTactic
import Derived.Outline
import Derived.Lib.Hide
import Derived.Lib.Builder
namespace Go.Proofs.YtlalnkabfigodaaDoor
open Go.RowKit

theorem ret_bool {a b : Bool} (h : a = b) : Ending.returned (.bool a) = .returned (.bool b) := by rw [h]
theorem ret_int {k : IntKind} {a b : Int} (h : a = b) : Ending.returned (.int k a) = .returned (.int k b) := by rw [h]
/-- a type, as it lies in six cells -/
structure RawT where
 all : Bool
 flat : Int
 pair : Int
 pv : Value
 fn : Int
 fv : Value
def raw0 : RawT := ⟨false, 0, 0, .slice none 0 0, 0, .slice none 0 0⟩
def rawV (r : RawT) : Value := .agg #[.bool r.all, .int .i64 r.flat, .int .i64 r.pair, r.pv, .int .i64 r.fn, r.fv]
def rawCells (r : RawT) : List Value := [.bool r.all, .int .i64 r.flat, .int .i64 r.pair, r.pv, .int .i64 r.fn, r.fv]
def rawsCells (l : List RawT) : List Value := l.flatMap rawCells
theorem rawsCells_app (l m : List RawT) : rawsCells (l ++ m) = rawsCells l ++ rawsCells m := by simp [rawsCells]
theorem rawsCells_len (l : List RawT) : (rawsCells l).length = l.length * 6 := by
 induction l with
 | nil => rfl
 | cons t r ih =>
  have e : rawsCells (t :: r) = rawCells t ++ rawsCells r := rfl
  rw [e, List.length_append, ih, List.length_cons]; simp only [rawCells, List.length_cons, List.length_nil]; omega
theorem rawsCells_get (l : List RawT) (j i : Nat) (hj : j < l.length) (hi : i < 6) : (rawsCells l)[j * 6 + i]? = (rawCells (l.getD j raw0))[i]? := by
 induction l generalizing j with
 | nil => simp at hj
 | cons t r ih =>
  have e : rawsCells (t :: r) = rawCells t ++ rawsCells r := rfl
  cases j with
  | zero => rw [e, List.getElem?_append_left (by simp [rawCells]; omega), Nat.zero_mul, Nat.zero_add]; rfl
  | succ j =>
   have := ih j (by simpa using hj)
   rw [e, show (j + 1) * 6 + i = j * 6 + i + 6 by omega, List.getElem?_append_right (by simp [rawCells])]
   simpa [rawCells] using this
/-- six cells at an address -/
def Cells6 (w : World) (b off : Nat) (r : RawT) : Prop :=
 w.cell? ⟨b, off, none⟩ = some (.bool r.all) ∧ w.cell? ⟨b, off + 1, none⟩ = some (.int .i64 r.flat) ∧ w.cell? ⟨b, off + 2, none⟩ = some (.int .i64 r.pair) ∧ w.cell? ⟨b, off + 3, none⟩ = some r.pv ∧ w.cell? ⟨b, off + 4, none⟩ = some (.int .i64 r.fn) ∧ w.cell? ⟨b, off + 5, none⟩ = some r.fv
/-- rows of six cells -/
def Rows6 (w : World) (b off : Nat) (rs : List RawT) : Prop := ∀ j, j < rs.length → Cells6 w b (off + j * 6) (rs.getD j raw0)
/-- a slice of types, as it lies in blocks for which ok holds -/
inductive TyS (w : World) (ok : Nat → Prop) : Value → List Ty → Prop
 | mkNil (a : Option Addr) (c : Nat) : TyS w ok (.slice a 0 c) []
 | mkSome (b off cap n : Nat) (rs : List RawT) (l : List Ty) : ok b → n = l.length → rs.length = l.length → n ≤ maxLen ∧ n ≤ cap → Rows6 w b off rs →
   (∀ j, j < l.length → (rs.getD j raw0).all = (l.getD j ty0).all ∧ (rs.getD j raw0).flat = (l.getD j ty0).flat ∧ (rs.getD j raw0).pair = (l.getD j ty0).pair ∧ (rs.getD j raw0).fn = (l.getD j ty0).fn) →
   (∀ j, j < l.length → TyS w ok (rs.getD j raw0).pv (l.getD j ty0).pairs) → (∀ j, j < l.length → TyS w ok (rs.getD j raw0).fv (l.getD j ty0).funs) → TyS w ok (.slice (some ⟨b, off, none⟩) n cap) l
/-- six cells are a type -/
structure RawOf (w : World) (ok : Nat → Prop) (r : RawT) (t : Ty) : Prop where
 all : r.all = t.all
 flat : r.flat = t.flat
 pair : r.pair = t.pair
 fn : r.fn = t.fn
 pv : TyS w ok r.pv t.pairs
 fv : TyS w ok r.fv t.funs
def RawsOf (w : World) (ok : Nat → Prop) (rs : List RawT) (l : List Ty) : Prop := rs.length = l.length ∧ ∀ j, j < l.length → RawOf w ok (rs.getD j raw0) (l.getD j ty0)
theorem TyS.inv {w : World} {ok : Nat → Prop} {v : Value} {l : List Ty} (h : TyS w ok v l) :
  (l = [] ∧ ∃ a c, v = .slice a 0 c) ∨ ∃ b off cap rs, v = .slice (some ⟨b, off, none⟩) l.length cap ∧ ok b ∧ l.length ≤ maxLen ∧ Rows6 w b off rs ∧ RawsOf w ok rs l := by
 cases h with
 | mkNil a c => exact .inl ⟨rfl, a, c, rfl⟩
 | mkSome b off cap n rs _ h1 h2 h3 h4 h5 h6 h7 h8 =>
  subst h2
  exact .inr ⟨b, off, cap, rs, rfl, h1, h4.1, h5, h3, fun j hj => ⟨(h6 j hj).1, (h6 j hj).2.1, (h6 j hj).2.2.1, (h6 j hj).2.2.2, h7 j hj, h8 j hj⟩⟩
theorem TyS.mk {w : World} {ok : Nat → Prop} {l : List Ty} {b off cap : Nat} {rs : List RawT} (h1 : ok b) (h4 : l.length ≤ maxLen) (h5 : Rows6 w b off rs) (h6 : RawsOf w ok rs l) (h7 : l.length ≤ cap) :
  TyS w ok (.slice (some ⟨b, off, none⟩) l.length cap) l :=
 TyS.mkSome b off cap _ rs l h1 rfl h6.1 ⟨h4, h7⟩ h5 (fun j hj => ⟨(h6.2 j hj).all, (h6.2 j hj).flat, (h6.2 j hj).pair, (h6.2 j hj).fn⟩) (fun j hj => (h6.2 j hj).pv) (fun j hj => (h6.2 j hj).fv)
/-- a slice has room for what is in it -/
theorem TyS.room {w : World} {ok : Nat → Prop} {a : Option Addr} {n c : Nat} {l : List Ty} (h : TyS w ok (.slice a n c) l) : l.length ≤ c := by
 cases h with
 | mkNil a c => exact Nat.zero_le _
 | mkSome b off cap n rs _ h1 h2 h3 h4 h5 h6 h7 h8 => rw [← h2]; exact h4.2
theorem Cells6.mono {w w' : World} {b off : Nat} {r : RawT} (h : Cells6 w b off r) (hc : ∀ o, w'.cell? ⟨b, o, none⟩ = w.cell? ⟨b, o, none⟩) : Cells6 w' b off r :=
 ⟨(hc _).trans h.1, (hc _).trans h.2.1, (hc _).trans h.2.2.1, (hc _).trans h.2.2.2.1, (hc _).trans h.2.2.2.2.1, (hc _).trans h.2.2.2.2.2⟩
theorem Rows6.mono {w w' : World} {b off : Nat} {rs : List RawT} (h : Rows6 w b off rs) (hc : ∀ o, w'.cell? ⟨b, o, none⟩ = w.cell? ⟨b, o, none⟩) : Rows6 w' b off rs :=
 fun j hj => (h j hj).mono hc
theorem TyS.mono {w w' : World} {ok ok' : Nat → Prop} (ho : ∀ b, ok b → ok' b) (hc : ∀ b o, ok b → w'.cell? ⟨b, o, none⟩ = w.cell? ⟨b, o, none⟩) {v : Value} {l : List Ty} (h : TyS w ok v l) : TyS w' ok' v l := by
 induction h with
 | mkNil a c => exact .mkNil a c
 | mkSome b off cap n rs l h1 h2 h3 h4 h5 h6 _ _ ih ih' => exact TyS.mkSome b off cap n rs l (ho b h1) h2 h3 h4 (h5.mono fun o => hc b o h1) h6 ih ih'
theorem RawOf.mono {w w' : World} {ok ok' : Nat → Prop} (ho : ∀ b, ok b → ok' b) (hc : ∀ b o, ok b → w'.cell? ⟨b, o, none⟩ = w.cell? ⟨b, o, none⟩) {r : RawT} {t : Ty} (h : RawOf w ok r t) : RawOf w' ok' r t :=
 ⟨h.1, h.2, h.3, h.4, h.5.mono ho hc, h.6.mono ho hc⟩
theorem RawsOf.mono {w w' : World} {ok ok' : Nat → Prop} (ho : ∀ b, ok b → ok' b) (hc : ∀ b o, ok b → w'.cell? ⟨b, o, none⟩ = w.cell? ⟨b, o, none⟩) {rs : List RawT} {l : List Ty} (h : RawsOf w ok rs l) : RawsOf w' ok' rs l :=
 ⟨h.1, fun j hj => (h.2 j hj).mono ho hc⟩
/-- what lies below stays -/
theorem TyS.under {w w' : World} {v : Value} {l : List Ty} (h : TyS w (· < w.heap.size) v l) (hb : Below w.heap.size w w') : TyS w' (· < w'.heap.size) v l :=
 h.mono (fun _ h => Nat.lt_of_lt_of_le h hb.size) fun _ _ h => hb.cell (p := ⟨_, _, none⟩) h
theorem RawOf.below {w w' : World} {r : RawT} {t : Ty} (h : RawOf w (· < w.heap.size) r t) (hb : Below w.heap.size w w') : RawOf w' (· < w'.heap.size) r t := ⟨h.1, h.2, h.3, h.4, h.5.under hb, h.6.under hb⟩
theorem RawsOf.below {w w' : World} {r : List RawT} {t : List Ty} (h : RawsOf w (· < w.heap.size) r t) (hb : Below w.heap.size w w') : RawsOf w' (· < w'.heap.size) r t := ⟨h.1, fun j hj => (h.2 j hj).below hb⟩
/-- the slice is a slice -/
theorem TyS.val {w : World} {ok : Nat → Prop} {v : Value} {l : List Ty} (h : TyS w ok v l) : ∃ a c, v = .slice a l.length c := by
 rcases h.inv with ⟨rfl, a, c, rfl⟩ | ⟨b, off, cap, rs, rfl, _⟩
 ·
  exact ⟨a, c, rfl⟩
 ·
  exact ⟨_, _, rfl⟩
theorem TyS.len {w : World} {ok : Nat → Prop} {v : Value} {l : List Ty} (h : TyS w ok v l) : l.length ≤ maxLen := by
 rcases h.inv with ⟨rfl, a, c, rfl⟩ | ⟨b, off, cap, rs, rfl, _, h, _⟩
 ·
  exact Nat.zero_le _
 ·
  exact h
/-- a value of type Type -/
def TyV (w : World) (v : Value) (t : Ty) : Prop := ∃ r, v = rawV r ∧ RawOf w (· < w.heap.size) r t
theorem TyV.below {w w' : World} {v : Value} {t : Ty} (h : TyV w v t) (hb : Below w.heap.size w w') : TyV w' v t := by
 obtain ⟨r, hv, h⟩ := h
 exact ⟨r, hv, h.below hb⟩
/-- its six cells, written out -/
theorem TyV.form {w : World} {v : Value} {t : Ty} (h : TyV w v t) : ∃ pa pc fa fc, v = .agg #[.bool t.all, .int .i64 t.flat, .int .i64 t.pair, .slice pa t.pairs.length pc, .int .i64 t.fn, .slice fa t.funs.length fc] ∧
  TyS w (· < w.heap.size) (.slice pa t.pairs.length pc) t.pairs ∧ TyS w (· < w.heap.size) (.slice fa t.funs.length fc) t.funs := by
 obtain ⟨⟨a, f, p, pv, g, fv⟩, rfl, h1, h2, h3, h4, h5, h6⟩ := h
 simp only at h1 h2 h3 h4 h5 h6
 obtain ⟨pa, pc, rfl⟩ := h5.val
 obtain ⟨fa, fc, rfl⟩ := h6.val
 subst h1 h2 h3 h4
 exact ⟨pa, pc, fa, fc, rfl, h5, h6⟩
theorem TyV.mk {w : World} {a : Bool} {f p g : Int} {pv fv : Value} {ps fs : List Ty} (hp : TyS w (· < w.heap.size) pv ps) (hf : TyS w (· < w.heap.size) fv fs) :
  TyV w (.agg #[.bool a, .int .i64 f, .int .i64 p, pv, .int .i64 g, fv]) (.mk a f p ps g fs) := ⟨⟨a, f, p, pv, g, fv⟩, rfl, rfl, rfl, rfl, rfl, hp, hf⟩
/-- an element of a slice -/
theorem TyS.at {w : World} {ok : Nat → Prop} {pa : Option Addr} {n c : Nat} {l : List Ty} (h : TyS w ok (.slice pa n c) l) {j : Nat} (hj : j < l.length) :
  ∃ b off r, pa = some ⟨b, off, none⟩ ∧ ok b ∧ Cells6 w b (off + j * 6) r ∧ RawOf w ok r (l.getD j ty0) := by
 rcases h.inv with ⟨rfl, _⟩ | ⟨b, off, cap, rs, e, hb, _, hc, hr⟩
 ·
  simp at hj
 ·
  cases e
  exact ⟨b, off, _, rfl, hb, hc j (by rw [hr.1]; exact hj), hr.2 j hj⟩
/-- an element's six cells, and the type that they are -/
theorem TyS.elem {w : World} {pa : Option Addr} {n c : Nat} {l : List Ty} {d : Ty} (h : TyS w (· < w.heap.size) (.slice pa n c) l) {j : Nat} (hj : j < l.length) (hd : l.getD j ty0 = d) :
  ∃ b off p1 c1 p2 c2, pa = some ⟨b, off, none⟩ ∧ b < w.heap.size ∧ w.cell? ⟨b, off + j * 6, none⟩ = some (.bool d.all) ∧ w.cell? ⟨b, off + j * 6 + 1, none⟩ = some (.int .i64 d.flat) ∧ w.cell? ⟨b, off + j * 6 + 2, none⟩ = some (.int .i64 d.pair) ∧
   w.cell? ⟨b, off + j * 6 + 3, none⟩ = some (.slice p1 d.pairs.length c1) ∧ w.cell? ⟨b, off + j * 6 + 4, none⟩ = some (.int .i64 d.fn) ∧ w.cell? ⟨b, off + j * 6 + 5, none⟩ = some (.slice p2 d.funs.length c2) ∧
   TyV w (.agg #[.bool d.all, .int .i64 d.flat, .int .i64 d.pair, .slice p1 d.pairs.length c1, .int .i64 d.fn, .slice p2 d.funs.length c2]) d := by
 obtain ⟨b, off, r, hp, hb, hc, hr⟩ := h.at hj
 rw [hd] at hr
 obtain ⟨a, f, p, pv, g, fv⟩ := r
 obtain ⟨h1, h2, h3, h4, h5, h6⟩ := hr
 simp only at h1 h2 h3 h4 h5 h6
 obtain ⟨p1, c1, rfl⟩ := h5.val
 obtain ⟨p2, c2, rfl⟩ := h6.val
 subst h1 h2 h3 h4
 exact ⟨b, off, p1, c1, p2, c2, hp, hb, hc.1, hc.2.1, hc.2.2.1, hc.2.2.2.1, hc.2.2.2.2.1, hc.2.2.2.2.2, ⟨⟨d.all, d.flat, d.pair, _, d.fn, _⟩, rfl, rfl, rfl, rfl, rfl, h5, h6⟩⟩
/-- a variable of type Type, in a block of its own -/
def BoxAt (w : World) (g : Nat) (a : Bool) (f p : Int) (pv : Value) (k : Int) (fv : Value) : Prop := w.heap[g]? = some (.cells #[.bool a, .int .i64 f, .int .i64 p, pv, .int .i64 k, fv] 47 (0, 0))
section
variable {w w' : World} {g B : Nat} {a : Bool} {f p k : Int} {pv fv : Value}
theorem BoxAt.c0 (h : BoxAt w g a f p pv k fv) : w.cell? ⟨g, 0, none⟩ = some (.bool a) := Lib.cell_of_heap h 0
theorem BoxAt.c1 (h : BoxAt w g a f p pv k fv) : w.cell? ⟨g, 1, none⟩ = some (.int .i64 f) := Lib.cell_of_heap h 1
theorem BoxAt.c2 (h : BoxAt w g a f p pv k fv) : w.cell? ⟨g, 2, none⟩ = some (.int .i64 p) := Lib.cell_of_heap h 2
theorem BoxAt.c3 (h : BoxAt w g a f p pv k fv) : w.cell? ⟨g, 3, none⟩ = some pv := Lib.cell_of_heap h 3
theorem BoxAt.c4 (h : BoxAt w g a f p pv k fv) : w.cell? ⟨g, 4, none⟩ = some (.int .i64 k) := Lib.cell_of_heap h 4
theorem BoxAt.c5 (h : BoxAt w g a f p pv k fv) : w.cell? ⟨g, 5, none⟩ = some fv := Lib.cell_of_heap h 5
theorem BoxAt.fr (h : BoxAt w g a f p pv k fv) (j : Nat) : w.frozen? ⟨g, j, none⟩ = false := Lib.frozen_of_heap h j
theorem BoxAt.lt (h : BoxAt w g a f p pv k fv) : g < w.heap.size := (Array.getElem?_eq_some_iff.1 h).1
theorem BoxAt.under (h : BoxAt w g a f p pv k fv) (hb : Below B w w') (hg : g < B) : BoxAt w' g a f p pv k fv := (hb.block g hg).trans h
theorem BoxAt.keep (h : BoxAt w g a f p pv k fv) (hb : Below w.heap.size w w') : BoxAt w' g a f p pv k fv := h.under hb h.lt
end
theorem BoxAt.made (w : World) (a : Bool) (f p : Int) (pv : Value) (k : Int) (fv : Value) : BoxAt (w.alloc (.cells #[.bool a, .int .i64 f, .int .i64 p, pv, .int .i64 k, fv] 47)) w.heap.size a f p pv k fv := heap_alloc_new _ _
theorem add_none (g i : Nat) : (⟨g, 0, none⟩ : Addr).add i = ⟨g, i, none⟩ := by unfold Addr.add; split <;> simp_all
/-- a slice of the call's own -/
theorem TyS.of_own {w : World} {ok : Nat → Prop} {B e : Nat} {v : Value} {rs : List RawT} {l : List Ty} (h : w.ownsRow B e 6 v rs.length (rawsCells rs)) (hm : l.length ≤ maxLen) (hg : ∀ g, v.ownBlock = some g → ok g) (hr : RawsOf w ok rs l) : TyS w ok v l := by
 have hc := @World.ownsRow.cells _ _ _ _ _ _ _ h
 have hlen := hr.1
 rcases h.2 with ⟨rfl, h0⟩ | ⟨g, cap, cur, rfl, _, _, hle, _⟩
 ·
  obtain rfl := List.length_eq_zero_iff.1 (hlen.symm.trans h0)
  exact .mkNil _ _
 ·
  rw [hlen] at hle ⊢
  refine .mk (hg g rfl) hm (fun j hj => ?_) hr hle
  have e : ∀ i, (⟨g, 0, none⟩ : Addr).add i = ⟨g, 0 + i, none⟩ := fun i => by rw [add_none, Nat.zero_add]
  have hx : ∀ i, i < 6 → ∀ x, (rawCells (rs.getD j raw0))[i]? = some x → w.cell? ⟨g, 0 + (j * 6 + i), none⟩ = some x := fun i hi x hx => by
   have := hc (g := g) rfl (j * 6 + i) x (by rw [rawsCells_get rs j i hj hi]; exact hx)
   rwa [e] at this
  exact ⟨hx 0 (by omega) _ rfl, hx 1 (by omega) _ rfl, hx 2 (by omega) _ rfl, hx 3 (by omega) _ rfl, hx 4 (by omega) _ rfl, hx 5 (by omega) _ rfl⟩
theorem RawsOf.snoc {w : World} {ok : Nat → Prop} {rs : List RawT} {l : List Ty} {r : RawT} {d : Ty} (h : RawsOf w ok rs l) (h' : RawOf w ok r d) : RawsOf w ok (rs ++ [r]) (l ++ [d]) := by
 refine ⟨by simp [h.1], fun j hj => ?_⟩
 have hl := h.1
 simp only [List.length_append, List.length_cons, List.length_nil] at hj
 by_cases hlt : j < l.length
 ·
  have := h.2 j hlt
  simpa [List.getD_eq_getElem?_getD, List.getElem?_append_left, hlt, hl] using this
 ·
  obtain rfl : j = l.length := by omega
  rw [← hl]
  simpa [List.getD_eq_getElem?_getD, hl] using h'
theorem RawsOf.none (w : World) (ok : Nat → Prop) : RawsOf w ok [] [] := ⟨rfl, fun j hj => by simp at hj⟩
/-- all cells of a box at once -/
theorem BoxAt.cs {w : World} {g : Nat} {a : Bool} {f p k : Int} {pv fv : Value} (h : BoxAt w g a f p pv k fv) : w.cell? ⟨g, 0, none⟩ = some (.bool a) ∧ w.cell? ⟨g, 1, none⟩ = some (.int .i64 f) ∧ w.cell? ⟨g, 2, none⟩ = some (.int .i64 p) ∧ w.cell? ⟨g, 3, none⟩ = some (pv) ∧ w.cell? ⟨g, 4, none⟩ = some (.int .i64 k) ∧ w.cell? ⟨g, 5, none⟩ = some (fv) := ⟨h.c0, h.c1, h.c2, h.c3, h.c4, h.c5⟩
end Go.Proofs.YtlalnkabfigodaaDoor

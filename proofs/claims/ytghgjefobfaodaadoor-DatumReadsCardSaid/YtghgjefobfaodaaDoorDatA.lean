import Derived.Test.YtghgjefobfaodaaDoorDatP
namespace Go.Proofs.YtghgjefobfaodaaDoor
open Go.RowKit

/-- a datum, as it lies in three cells -/
structure Raw where
  kind : Int
  text : ByteArray
  sv : Value
def raw0 : Raw := ⟨0, ⟨#[]⟩, .slice none 0 0⟩
def rawV (r : Raw) : Value := .agg #[.int .i64 r.kind, .string r.text, r.sv]
def rawCells (r : Raw) : List Value := [.int .i64 r.kind, .string r.text, r.sv]
def rawsCells (l : List Raw) : List Value := l.flatMap rawCells
theorem rawsCells_app (l m : List Raw) : rawsCells (l ++ m) = rawsCells l ++ rawsCells m := by simp [rawsCells]
theorem rawsCells_len (l : List Raw) : (rawsCells l).length = l.length * 3 := by
  induction l with
  | nil => rfl
  | cons t r ih =>
    have e : rawsCells (t :: r) = rawCells t ++ rawsCells r := rfl
    rw [e, List.length_append, ih, List.length_cons]; simp only [rawCells, List.length_cons, List.length_nil]; omega
theorem rawsCells_get (l : List Raw) (j : Nat) (hj : j < l.length) : (rawsCells l)[j * 3]? = some (.int .i64 (l.getD j raw0).kind) ∧ (rawsCells l)[j * 3 + 1]? = some (.string (l.getD j raw0).text) ∧ (rawsCells l)[j * 3 + 2]? = some (l.getD j raw0).sv := by
  induction l generalizing j with
  | nil => simp at hj
  | cons t r ih =>
    cases j with
    | zero => simp [rawsCells, rawCells]
    | succ j =>
      have := ih j (by simpa using hj)
      have e : rawsCells (t :: r) = rawCells t ++ rawsCells r := rfl
      rw [e, show (j + 1) * 3 = j * 3 + 3 by omega]
      refine ⟨?_, ?_, ?_⟩
      · rw [List.getElem?_append_right (by simp [rawCells])]; simpa [rawCells] using this.1
      · rw [List.getElem?_append_right (by simp [rawCells])]; simpa [rawCells] using this.2.1
      · rw [List.getElem?_append_right (by simp [rawCells])]; simpa [rawCells] using this.2.2
/-- rows of three cells -/
def Rows3 (w : World) (b off : Nat) (rs : List Raw) : Prop :=
  ∀ j, j < rs.length → w.cell? ⟨b, off + j * 3, none⟩ = some (.int .i64 (rs.getD j raw0).kind) ∧ w.cell? ⟨b, off + j * 3 + 1, none⟩ = some (.string (rs.getD j raw0).text) ∧ w.cell? ⟨b, off + j * 3 + 2, none⟩ = some (rs.getD j raw0).sv
/-- a slice of data, as it lies in blocks for which ok holds -/
inductive SliceOf (w : World) (ok : Nat → Prop) : Value → List Dat → Prop
  | mkNil (a : Option Addr) (c : Nat) : SliceOf w ok (.slice a 0 c) []
  | mkSome (b off cap n : Nat) (rs : List Raw) (l : List Dat) : ok b → n = l.length → rs.length = l.length → n ≤ maxLen → Rows3 w b off rs →
      (∀ j, j < l.length → (rs.getD j raw0).kind = (l.getD j dat0).kind ∧ (rs.getD j raw0).text = (l.getD j dat0).text) →
      (∀ j, j < l.length → SliceOf w ok (rs.getD j raw0).sv (l.getD j dat0).list) → SliceOf w ok (.slice (some ⟨b, off, none⟩) n cap) l
/-- three cells are a datum -/
def RawOf (w : World) (ok : Nat → Prop) (r : Raw) (d : Dat) : Prop := r.kind = d.kind ∧ r.text = d.text ∧ SliceOf w ok r.sv d.list
/-- rows are data -/
def RawsOf (w : World) (ok : Nat → Prop) (rs : List Raw) (l : List Dat) : Prop := rs.length = l.length ∧ ∀ j, j < l.length → RawOf w ok (rs.getD j raw0) (l.getD j dat0)
theorem SliceOf.inv {w : World} {ok : Nat → Prop} {v : Value} {l : List Dat} (h : SliceOf w ok v l) :
    (l = [] ∧ ∃ a c, v = .slice a 0 c) ∨ ∃ b off cap rs, v = .slice (some ⟨b, off, none⟩) l.length cap ∧ ok b ∧ l.length ≤ maxLen ∧ Rows3 w b off rs ∧ RawsOf w ok rs l := by
  cases h with
  | mkNil a c => exact .inl ⟨rfl, a, c, rfl⟩
  | mkSome b off cap n rs _ h1 h2 h3 h4 h5 h6 h7 => subst h2; exact .inr ⟨b, off, cap, rs, rfl, h1, h4, h5, h3, fun j hj => ⟨(h6 j hj).1, (h6 j hj).2, h7 j hj⟩⟩
theorem SliceOf.mk {w : World} {ok : Nat → Prop} {l : List Dat} {b off cap : Nat} {rs : List Raw} (h1 : ok b) (h4 : l.length ≤ maxLen) (h5 : Rows3 w b off rs) (h6 : RawsOf w ok rs l) :
    SliceOf w ok (.slice (some ⟨b, off, none⟩) l.length cap) l :=
  SliceOf.mkSome b off cap _ rs l h1 rfl h6.1 h4 h5 (fun j hj => ⟨(h6.2 j hj).1, (h6.2 j hj).2.1⟩) (fun j hj => (h6.2 j hj).2.2)
theorem Rows3.mono {w w' : World} {b off : Nat} {rs : List Raw} (h : Rows3 w b off rs) (hc : ∀ o, w'.cell? ⟨b, o, none⟩ = w.cell? ⟨b, o, none⟩) : Rows3 w' b off rs :=
  fun j hj => ⟨(hc _).trans (h j hj).1, (hc _).trans (h j hj).2.1, (hc _).trans (h j hj).2.2⟩
theorem SliceOf.mono {w w' : World} {ok ok' : Nat → Prop} (ho : ∀ b, ok b → ok' b) (hc : ∀ b o, ok b → w'.cell? ⟨b, o, none⟩ = w.cell? ⟨b, o, none⟩) {v : Value} {l : List Dat} (h : SliceOf w ok v l) : SliceOf w' ok' v l := by
  induction h with
  | mkNil a c => exact .mkNil a c
  | mkSome b off cap n rs l h1 h2 h3 h4 h5 h6 _ ih => exact SliceOf.mkSome b off cap n rs l (ho b h1) h2 h3 h4 (h5.mono fun o => hc b o h1) h6 ih
theorem RawOf.mono {w w' : World} {ok ok' : Nat → Prop} (ho : ∀ b, ok b → ok' b) (hc : ∀ b o, ok b → w'.cell? ⟨b, o, none⟩ = w.cell? ⟨b, o, none⟩) {r : Raw} {d : Dat} (h : RawOf w ok r d) : RawOf w' ok' r d :=
  ⟨h.1, h.2.1, h.2.2.mono ho hc⟩
theorem RawsOf.mono {w w' : World} {ok ok' : Nat → Prop} (ho : ∀ b, ok b → ok' b) (hc : ∀ b o, ok b → w'.cell? ⟨b, o, none⟩ = w.cell? ⟨b, o, none⟩) {rs : List Raw} {l : List Dat} (h : RawsOf w ok rs l) : RawsOf w' ok' rs l :=
  ⟨h.1, fun j hj => (h.2 j hj).mono ho hc⟩
/-- what lies below stays -/
theorem SliceOf.under {w w' : World} {B : Nat} {v : Value} {l : List Dat} (h : SliceOf w (· < B) v l) (hb : Below B w w') : SliceOf w' (· < B) v l :=
  h.mono (fun _ h => h) fun _ _ h => hb.cell (p := ⟨_, _, none⟩) h
theorem SliceOf.grow {w : World} {B B' : Nat} {v : Value} {l : List Dat} (h : SliceOf w (· < B) v l) (hb : B ≤ B') : SliceOf w (· < B') v l :=
  h.mono (fun _ h => Nat.lt_of_lt_of_le h hb) fun _ _ _ => rfl
theorem RawOf.under {w w' : World} {B : Nat} {r : Raw} {d : Dat} (h : RawOf w (· < B) r d) (hb : Below B w w') : RawOf w' (· < B) r d := ⟨h.1, h.2.1, h.2.2.under hb⟩
theorem RawOf.grow {w : World} {B B' : Nat} {r : Raw} {d : Dat} (h : RawOf w (· < B) r d) (hb : B ≤ B') : RawOf w (· < B') r d := ⟨h.1, h.2.1, h.2.2.grow hb⟩
theorem RawsOf.under {w w' : World} {B : Nat} {r : List Raw} {d : List Dat} (h : RawsOf w (· < B) r d) (hb : Below B w w') : RawsOf w' (· < B) r d := ⟨h.1, fun j hj => (h.2 j hj).under hb⟩
theorem RawsOf.grow {w : World} {B B' : Nat} {r : List Raw} {d : List Dat} (h : RawsOf w (· < B) r d) (hb : B ≤ B') : RawsOf w (· < B') r d := ⟨h.1, fun j hj => (h.2 j hj).grow hb⟩
/-- the slice is a slice -/
theorem SliceOf.val {w : World} {ok : Nat → Prop} {v : Value} {l : List Dat} (h : SliceOf w ok v l) : ∃ a c, v = .slice a l.length c := by
  rcases h.inv with ⟨rfl, a, c, rfl⟩ | ⟨b, off, cap, rs, rfl, _⟩
  · exact ⟨a, c, rfl⟩
  · exact ⟨_, _, rfl⟩
theorem SliceOf.len {w : World} {ok : Nat → Prop} {v : Value} {l : List Dat} (h : SliceOf w ok v l) : l.length ≤ maxLen := by
  rcases h.inv with ⟨rfl, a, c, rfl⟩ | ⟨b, off, cap, rs, rfl, _, h, _⟩
  · exact Nat.zero_le _
  · exact h
theorem add_none (g i : Nat) : (⟨g, 0, none⟩ : Addr).add i = ⟨g, i, none⟩ := by unfold Addr.add; split <;> simp_all
/-- a slice of the call's own -/
theorem SliceOf.of_own {w : World} {ok : Nat → Prop} {B e : Nat} {v : Value} {rs : List Raw} {l : List Dat} (h : w.ownsRow B e 3 v rs.length (rawsCells rs)) (hm : l.length ≤ maxLen) (hg : ∀ g, v.ownBlock = some g → ok g) (hr : RawsOf w ok rs l) : SliceOf w ok v l := by
  have hc := @World.ownsRow.cells _ _ _ _ _ _ _ h
  have hlen := hr.1
  rcases h.2 with ⟨rfl, h0⟩ | ⟨g, cap, cur, rfl, _⟩
  · obtain rfl := List.length_eq_zero_iff.1 (hlen.symm.trans h0)
    exact .mkNil _ _
  · rw [hlen]
    refine .mk (hg g rfl) hm (fun j hj => ?_) hr
    obtain ⟨h1, h2, h3⟩ := rawsCells_get rs j hj
    have e : ∀ i, (⟨g, 0, none⟩ : Addr).add i = ⟨g, 0 + i, none⟩ := fun i => by rw [add_none, Nat.zero_add]
    refine ⟨?_, ?_, ?_⟩
    · have := hc (g := g) rfl _ _ h1; rw [e] at this; exact this
    · have := hc (g := g) rfl _ _ h2; rw [e] at this; exact this
    · have := hc (g := g) rfl _ _ h3; rw [e] at this; exact this
theorem RawsOf.snoc {w : World} {ok : Nat → Prop} {rs : List Raw} {l : List Dat} {r : Raw} {d : Dat} (h : RawsOf w ok rs l) (h' : RawOf w ok r d) : RawsOf w ok (rs ++ [r]) (l ++ [d]) := by
  refine ⟨by simp [h.1], fun j hj => ?_⟩
  have hl := h.1
  simp only [List.length_append, List.length_cons, List.length_nil] at hj
  by_cases hlt : j < l.length
  · have := h.2 j hlt
    simpa [List.getD_eq_getElem?_getD, List.getElem?_append_left, hlt, hl] using this
  · obtain rfl : j = l.length := by omega
    rw [← hl]
    simpa [List.getD_eq_getElem?_getD, hl] using h'
theorem RawsOf.none (w : World) (ok : Nat → Prop) : RawsOf w ok [] [] := ⟨rfl, fun j hj => by simp at hj⟩
theorem bget {l : List Dat} {p : Dat → Bool} (k : Nat) (h : k < l.length) : (l.take (k + 1)).all p = ((l.take k).all p && p (l.getD k dat0)) := by
  rw [List.take_succ_eq_append_getElem h, List.all_append]
  simp [List.getD_eq_getElem?_getD, h]
theorem ball_not {l : List Dat} {p : Dat → Bool} (k : Nat) (h : k < l.length) (hp : p (l.getD k dat0) = false) : l.all p = false := by
  rw [List.all_eq_false]
  exact ⟨l[k], List.getElem_mem h, by simpa [List.getD_eq_getElem?_getD, h] using hp⟩
end Go.Proofs.YtghgjefobfaodaaDoor

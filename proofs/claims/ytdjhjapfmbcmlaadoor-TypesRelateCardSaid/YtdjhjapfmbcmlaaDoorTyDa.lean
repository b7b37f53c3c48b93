import Derived.Test.YtdjhjapfmbcmlaaDoorTyR
import Derived.Test.YtdjhjapfmbcmlaaDoorTyA
namespace Go.Proofs.YtdjhjapfmbcmlaaDoor
open Go.RowKit

def Dat.kind : Dat → Int | .mk k _ _ => k
def Dat.text : Dat → ByteArray | .mk _ t _ => t
def Dat.list : Dat → List Dat | .mk _ _ l => l
def dat0 : Dat := .mk 0 ⟨#[]⟩ []
/-- a datum, as it lies in three cells -/
structure RawD where
  kind : Int
  text : ByteArray
  sv : Value
def draw0 : RawD := ⟨0, ⟨#[]⟩, .slice none 0 0⟩
def drawV (r : RawD) : Value := .agg #[.int .i64 r.kind, .string r.text, r.sv]
def dCells (r : RawD) : List Value := [.int .i64 r.kind, .string r.text, r.sv]
def dsCells (l : List RawD) : List Value := l.flatMap dCells
theorem dsCells_app (l m : List RawD) : dsCells (l ++ m) = dsCells l ++ dsCells m := by simp [dsCells]
theorem dsCells_len (l : List RawD) : (dsCells l).length = l.length * 3 := by
  induction l with
  | nil => rfl
  | cons t r ih =>
    have e : dsCells (t :: r) = dCells t ++ dsCells r := rfl
    rw [e, List.length_append, ih, List.length_cons]; simp only [dCells, List.length_cons, List.length_nil]; omega
theorem dsCells_get (l : List RawD) (j : Nat) (hj : j < l.length) : (dsCells l)[j * 3]? = some (.int .i64 (l.getD j draw0).kind) ∧ (dsCells l)[j * 3 + 1]? = some (.string (l.getD j draw0).text) ∧ (dsCells l)[j * 3 + 2]? = some (l.getD j draw0).sv := by
  induction l generalizing j with
  | nil => simp at hj
  | cons t r ih =>
    cases j with
    | zero => simp [dsCells, dCells]
    | succ j =>
      have := ih j (by simpa using hj)
      have e : dsCells (t :: r) = dCells t ++ dsCells r := rfl
      rw [e, show (j + 1) * 3 = j * 3 + 3 by omega]
      refine ⟨?_, ?_, ?_⟩
      · rw [List.getElem?_append_right (by simp [dCells])]; simpa [dCells] using this.1
      · rw [List.getElem?_append_right (by simp [dCells])]; simpa [dCells] using this.2.1
      · rw [List.getElem?_append_right (by simp [dCells])]; simpa [dCells] using this.2.2
/-- rows of three cells -/
def Rows3 (w : World) (b off : Nat) (rs : List RawD) : Prop :=
  ∀ j, j < rs.length → w.cell? ⟨b, off + j * 3, none⟩ = some (.int .i64 (rs.getD j draw0).kind) ∧ w.cell? ⟨b, off + j * 3 + 1, none⟩ = some (.string (rs.getD j draw0).text) ∧ w.cell? ⟨b, off + j * 3 + 2, none⟩ = some (rs.getD j draw0).sv
/-- a slice of data, as it lies in blocks for which ok holds -/
inductive SliceOf (w : World) (ok : Nat → Prop) : Value → List Dat → Prop
  | mkNil (a : Option Addr) (c : Nat) : SliceOf w ok (.slice a 0 c) []
  | mkSome (b off cap n : Nat) (rs : List RawD) (l : List Dat) : ok b → n = l.length → rs.length = l.length → n ≤ maxLen → n ≤ cap → Rows3 w b off rs →
      (∀ j, j < l.length → (rs.getD j draw0).kind = (l.getD j dat0).kind ∧ (rs.getD j draw0).text = (l.getD j dat0).text) →
      (∀ j, j < l.length → SliceOf w ok (rs.getD j draw0).sv (l.getD j dat0).list) → SliceOf w ok (.slice (some ⟨b, off, none⟩) n cap) l
/-- three cells are a datum -/
def DawOf (w : World) (ok : Nat → Prop) (r : RawD) (d : Dat) : Prop := r.kind = d.kind ∧ r.text = d.text ∧ SliceOf w ok r.sv d.list
/-- rows are data -/
def DawsOf (w : World) (ok : Nat → Prop) (rs : List RawD) (l : List Dat) : Prop := rs.length = l.length ∧ ∀ j, j < l.length → DawOf w ok (rs.getD j draw0) (l.getD j dat0)
theorem SliceOf.inv {w : World} {ok : Nat → Prop} {v : Value} {l : List Dat} (h : SliceOf w ok v l) :
    (l = [] ∧ ∃ a c, v = .slice a 0 c) ∨ ∃ b off cap rs, v = .slice (some ⟨b, off, none⟩) l.length cap ∧ ok b ∧ l.length ≤ maxLen ∧ Rows3 w b off rs ∧ DawsOf w ok rs l := by
  cases h with
  | mkNil a c => exact .inl ⟨rfl, a, c, rfl⟩
  | mkSome b off cap n rs _ h1 h2 h3 h4 _ h5 h6 h7 => subst h2; exact .inr ⟨b, off, cap, rs, rfl, h1, h4, h5, h3, fun j hj => ⟨(h6 j hj).1, (h6 j hj).2, h7 j hj⟩⟩
theorem SliceOf.mk {w : World} {ok : Nat → Prop} {l : List Dat} {b off cap : Nat} {rs : List RawD} (h1 : ok b) (h4 : l.length ≤ maxLen) (hcap : l.length ≤ cap) (h5 : Rows3 w b off rs) (h6 : DawsOf w ok rs l) :
    SliceOf w ok (.slice (some ⟨b, off, none⟩) l.length cap) l :=
  SliceOf.mkSome b off cap _ rs l h1 rfl h6.1 h4 hcap h5 (fun j hj => ⟨(h6.2 j hj).1, (h6.2 j hj).2.1⟩) (fun j hj => (h6.2 j hj).2.2)
theorem Rows3.mono {w w' : World} {b off : Nat} {rs : List RawD} (h : Rows3 w b off rs) (hc : ∀ o, w'.cell? ⟨b, o, none⟩ = w.cell? ⟨b, o, none⟩) : Rows3 w' b off rs :=
  fun j hj => ⟨(hc _).trans (h j hj).1, (hc _).trans (h j hj).2.1, (hc _).trans (h j hj).2.2⟩
theorem SliceOf.mono {w w' : World} {ok ok' : Nat → Prop} (ho : ∀ b, ok b → ok' b) (hc : ∀ b o, ok b → w'.cell? ⟨b, o, none⟩ = w.cell? ⟨b, o, none⟩) {v : Value} {l : List Dat} (h : SliceOf w ok v l) : SliceOf w' ok' v l := by
  induction h with
  | mkNil a c => exact .mkNil a c
  | mkSome b off cap n rs l h1 h2 h3 h4 hcap h5 h6 _ ih => exact SliceOf.mkSome b off cap n rs l (ho b h1) h2 h3 h4 hcap (h5.mono fun o => hc b o h1) h6 ih
theorem DawOf.mono {w w' : World} {ok ok' : Nat → Prop} (ho : ∀ b, ok b → ok' b) (hc : ∀ b o, ok b → w'.cell? ⟨b, o, none⟩ = w.cell? ⟨b, o, none⟩) {r : RawD} {d : Dat} (h : DawOf w ok r d) : DawOf w' ok' r d :=
  ⟨h.1, h.2.1, h.2.2.mono ho hc⟩
theorem DawsOf.mono {w w' : World} {ok ok' : Nat → Prop} (ho : ∀ b, ok b → ok' b) (hc : ∀ b o, ok b → w'.cell? ⟨b, o, none⟩ = w.cell? ⟨b, o, none⟩) {rs : List RawD} {l : List Dat} (h : DawsOf w ok rs l) : DawsOf w' ok' rs l :=
  ⟨h.1, fun j hj => (h.2 j hj).mono ho hc⟩
/-- what lies below stays -/
theorem SliceOf.under {w w' : World} {B : Nat} {v : Value} {l : List Dat} (h : SliceOf w (· < B) v l) (hb : Below B w w') : SliceOf w' (· < B) v l :=
  h.mono (fun _ h => h) fun _ _ h => hb.cell (p := ⟨_, _, none⟩) h
theorem SliceOf.grow {w : World} {B B' : Nat} {v : Value} {l : List Dat} (h : SliceOf w (· < B) v l) (hb : B ≤ B') : SliceOf w (· < B') v l :=
  h.mono (fun _ h => Nat.lt_of_lt_of_le h hb) fun _ _ _ => rfl
theorem DawOf.under {w w' : World} {B : Nat} {r : RawD} {d : Dat} (h : DawOf w (· < B) r d) (hb : Below B w w') : DawOf w' (· < B) r d := ⟨h.1, h.2.1, h.2.2.under hb⟩
theorem DawOf.grow {w : World} {B B' : Nat} {r : RawD} {d : Dat} (h : DawOf w (· < B) r d) (hb : B ≤ B') : DawOf w (· < B') r d := ⟨h.1, h.2.1, h.2.2.grow hb⟩
theorem DawsOf.under {w w' : World} {B : Nat} {r : List RawD} {d : List Dat} (h : DawsOf w (· < B) r d) (hb : Below B w w') : DawsOf w' (· < B) r d := ⟨h.1, fun j hj => (h.2 j hj).under hb⟩
theorem DawsOf.grow {w : World} {B B' : Nat} {r : List RawD} {d : List Dat} (h : DawsOf w (· < B) r d) (hb : B ≤ B') : DawsOf w (· < B') r d := ⟨h.1, fun j hj => (h.2 j hj).grow hb⟩
/-- no more than there is room for -/
theorem SliceOf.room {w : World} {ok : Nat → Prop} {a : Option Addr} {n c : Nat} {l : List Dat} (h : SliceOf w ok (.slice a n c) l) : n ≤ c := by
  cases h with
  | mkNil a c => exact Nat.zero_le _
  | mkSome b off cap n rs _ h1 h2 h3 h4 hc h5 h6 h7 => exact hc
/-- the slice is a slice -/
theorem SliceOf.val {w : World} {ok : Nat → Prop} {v : Value} {l : List Dat} (h : SliceOf w ok v l) : ∃ a c, v = .slice a l.length c := by
  rcases h.inv with ⟨rfl, a, c, rfl⟩ | ⟨b, off, cap, rs, rfl, _⟩
  · exact ⟨a, c, rfl⟩
  · exact ⟨_, _, rfl⟩
theorem SliceOf.len {w : World} {ok : Nat → Prop} {v : Value} {l : List Dat} (h : SliceOf w ok v l) : l.length ≤ maxLen := by
  rcases h.inv with ⟨rfl, a, c, rfl⟩ | ⟨b, off, cap, rs, rfl, _, h, _⟩
  · exact Nat.zero_le _
  · exact h
/-- a slice of the call's own -/
theorem SliceOf.of_own {w : World} {ok : Nat → Prop} {B e : Nat} {v : Value} {rs : List RawD} {l : List Dat} (h : w.ownsRow B e 3 v rs.length (dsCells rs)) (hm : l.length ≤ maxLen) (hg : ∀ g, v.ownBlock = some g → ok g) (hr : DawsOf w ok rs l) : SliceOf w ok v l := by
  have hc := @World.ownsRow.cells _ _ _ _ _ _ _ h
  have hlen := hr.1
  rcases h.2 with ⟨rfl, h0⟩ | ⟨g, cap, cur, rfl, _, _, hncap, _⟩
  · obtain rfl := List.length_eq_zero_iff.1 (hlen.symm.trans h0)
    exact .mkNil _ _
  · rw [hlen] at hncap ⊢
    refine .mk (hg g rfl) hm hncap (fun j hj => ?_) hr
    obtain ⟨h1, h2, h3⟩ := dsCells_get rs j hj
    have e : ∀ i, (⟨g, 0, none⟩ : Addr).add i = ⟨g, 0 + i, none⟩ := fun i => by rw [add_none, Nat.zero_add]
    refine ⟨?_, ?_, ?_⟩
    · have := hc (g := g) rfl _ _ h1; rw [e] at this; exact this
    · have := hc (g := g) rfl _ _ h2; rw [e] at this; exact this
    · have := hc (g := g) rfl _ _ h3; rw [e] at this; exact this
theorem DawsOf.snoc {w : World} {ok : Nat → Prop} {rs : List RawD} {l : List Dat} {r : RawD} {d : Dat} (h : DawsOf w ok rs l) (h' : DawOf w ok r d) : DawsOf w ok (rs ++ [r]) (l ++ [d]) := by
  refine ⟨by simp [h.1], fun j hj => ?_⟩
  have hl := h.1
  simp only [List.length_append, List.length_cons, List.length_nil] at hj
  by_cases hlt : j < l.length
  · have := h.2 j hlt
    simpa [List.getD_eq_getElem?_getD, List.getElem?_append_left, hlt, hl] using this
  · obtain rfl : j = l.length := by omega
    rw [← hl]
    simpa [List.getD_eq_getElem?_getD, hl] using h'
theorem DawsOf.none (w : World) (ok : Nat → Prop) : DawsOf w ok [] [] := ⟨rfl, fun j hj => by simp at hj⟩
theorem Tryd.infoDat : (Tryd.prog.info? 39).map (fun i => (i.zero, i.size, i.bytes)) = some (some (.agg #[.int .i64 0, .string ⟨#[]⟩, .slice none 0 0]), 3, 48) := by kernel_rfl

/-- rows of a slice, as cells one by one -/
theorem rows_cells {w : World} {b : Nat} {rs : List RawD} (h : Rows3 w b 0 rs) : ∀ j u, (dsCells rs)[j]? = some u → w.cell? ((⟨b, 0, none⟩ : Addr).add j) = some u := by
  intro j u hu
  have hj : j < (dsCells rs).length := by
    rcases Nat.lt_or_ge j (dsCells rs).length with h' | h'
    · exact h'
    · rw [List.getElem?_eq_none h'] at hu; cases hu
  rw [dsCells_len] at hj
  have hq : j / 3 < rs.length := by omega
  obtain ⟨h0, h1, h2⟩ := h (j / 3) hq
  obtain ⟨g0, g1, g2⟩ := dsCells_get rs (j / 3) hq
  rw [add_none]
  have h3 : j % 3 < 3 := Nat.mod_lt _ (by decide)
  have hd : j / 3 * 3 + j % 3 = j := Nat.div_add_mod' j 3
  have : j % 3 = 0 ∨ j % 3 = 1 ∨ j % 3 = 2 := by omega
  rcases this with e | e | e
  · rw [e] at hd
    rw [show j = j / 3 * 3 by omega] at hu ⊢
    rw [g0] at hu
    simp only [Nat.zero_add] at h0
    rw [h0]; exact hu
  · rw [e] at hd
    rw [← hd] at hu ⊢
    rw [show (j / 3 * 3 + 1) = j / 3 * 3 + 1 from rfl] at hu
    rw [g1] at hu
    simp only [Nat.zero_add] at h1
    rw [h1]; exact hu
  · rw [e] at hd
    rw [← hd] at hu ⊢
    rw [g2] at hu
    simp only [Nat.zero_add] at h2
    rw [h2]; exact hu
theorem dsCells_one (rs : List RawD) (h : ∀ r ∈ rs, ∃ a n c, r.sv = .slice a n c) : ∀ u ∈ dsCells rs, u.oneCell' = true := by
  intro u hu
  obtain ⟨r, hr, hu⟩ := List.mem_flatMap.1 hu
  obtain ⟨a, n, c, e⟩ := h r hr
  simp only [dCells, List.mem_cons, List.not_mem_nil, or_false] at hu
  rcases hu with rfl | rfl | rfl
  · rfl
  · rfl
  · rw [e]; rfl

theorem own_base {w : World} {B B' e size n : Nat} {v : Value} {xs : List Value} (h : w.ownsRow B e size v n xs) (hB : B' ≤ B) : w.ownsRow B' e size v n xs := by
  refine ⟨h.1, ?_⟩
  rcases h.2 with h2 | ⟨g, cap, cur, rfl, hg, r⟩
  · exact .inl h2
  · exact .inr ⟨g, cap, cur, rfl, Nat.le_trans hB hg, r⟩

end Go.Proofs.YtdjhjapfmbcmlaaDoor

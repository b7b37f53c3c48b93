import Derived.Test.YtgjkobkcmgliaaaTySu
import Derived.Lib.SliceRun
namespace Go.Proofs.Ytgjkobkcmgliaaa
open Go.RowKit

theorem Try.infoTy : (Try.prog.info? 49).map (fun i => (i.zero, i.size, i.bytes)) = some (some (.agg #[.bool false, .int .i64 0, .int .i64 0, .slice none 0 0, .int .i64 0, .slice none 0 0]), 6, 80) := by kernel_rfl
/-- the cells of a slice of types, one by one -/
theorem rows6_cell {w : World} {b off : Nat} {rs : List RawT} (h : Rows6 w b off rs) (j : Nat) (u : Value) (hj : (rawsCells rs)[j]? = some u) : w.cell? ((⟨b, off, none⟩ : Addr).add j) = some u := by
  have hlt := (List.getElem?_eq_some_iff.1 hj).1
  rw [rawsCells_len] at hlt
  have hq : j / 6 < rs.length := by omega
  have hr : j % 6 < 6 := Nat.mod_lt _ (by omega)
  have hg := rawsCells_get rs (j / 6) (j % 6) hq hr
  rw [show j / 6 * 6 + j % 6 = j by omega, hj] at hg
  rw [Addr.add_lit]
  obtain ⟨h0, h1, h2, h3, h4, h5⟩ := h (j / 6) hq
  generalize rs.getD (j / 6) raw0 = r at hg h0 h1 h2 h3 h4 h5
  generalize hm : j / 6 = m at *
  generalize hn : j % 6 = n at *
  have hjj : j = m * 6 + n := by omega
  rw [hjj]
  match n, hr, hg with
  | 0, _, hg => cases hg; exact h0
  | 1, _, hg => cases hg; exact h1
  | 2, _, hg => cases hg; exact h2
  | 3, _, hg => cases hg; exact h3
  | 4, _, hg => cases hg; exact h4
  | 5, _, hg => cases hg; exact h5
theorem rawsCells_one {w : World} {ok : Nat → Prop} {rs : List RawT} {l : List Ty} (h : RawsOf w ok rs l) : ∀ u ∈ rawsCells rs, u.oneCell' = true := by
  intro u hu
  obtain ⟨r, hr, hu⟩ := List.mem_flatMap.1 hu
  obtain ⟨i, hi, rfl⟩ := List.getElem_of_mem hr
  have h0 := h.2 i (by rw [← h.1]; exact hi)
  have e : rs.getD i raw0 = rs[i] := by simp [List.getD_eq_getElem?_getD, hi]
  rw [e] at h0
  obtain ⟨a, c, hp⟩ := h0.pv.val
  obtain ⟨a', c', hf⟩ := h0.fv.val
  simp only [rawCells, List.mem_cons, List.not_mem_nil, or_false] at hu
  rcases hu with rfl | rfl | rfl | rfl | rfl | rfl
  · rfl
  · rfl
  · rfl
  · rw [hp]; rfl
  · rfl
  · rw [hf]; rfl

set_option maxRecDepth 100000 in
set_option maxHeartbeats 4000000 in
theorem clone_any (N : Nat → Prop) (l : List Ty) (v : Value) (w : World) (hN : ∀ b, N b → b < w.heap.size) (hl : TyS w (Lo N w) v l) (hb : l.length ≤ 300000) :
    Calls Try.prog 70 #[v] w fun e w' => (∃ v', e = .returned v' ∧ TyS w' (Lo N w') v' l) ∧ Below w.heap.size w w' := by
  obtain ⟨i0, hi, hz0, hz1, hz2⟩ := info_parts Try.infoTy
  have q22 : ∀ (w : World) (a : Option Addr) (n c n' c' : Nat), (binOp .eql 46 (.slice a n c) (.slice none n' c')).run Try.prog w = .ok (.bool a.isNone) w := fun w a n c n' c' => Lib.run_eql_slice_nil w _ _ a n c n' c' Try.underlying46
  obtain ⟨a, c, rfl⟩ := hl.val
  cases a with
  | none =>
    rcases hl.inv with ⟨rfl, _⟩ | ⟨b, off, cap, rs, e, _⟩
    · go_enter Try.func70, Try.ntmps70
      go_wp2
      go_ret
      exact ⟨⟨_, rfl, .mkNil _ _⟩, Below.refl _ _⟩
    · cases e
  | some ad =>
    have key : ∃ rs, RawsOf w (Lo N w) rs l ∧ ∀ j u, (rawsCells rs)[j]? = some u → w.cell? (ad.add j) = some u := by
      rcases hl.inv with ⟨rfl, _⟩ | ⟨b, off, cap, rs, e, hb, hm, hr, ho⟩
      · exact ⟨[], RawsOf.none _ _, fun j u h => by simp [rawsCells] at h⟩
      · cases e
        exact ⟨rs, ho, rows6_cell hr⟩
    obtain ⟨rs, hraw, hcells⟩ := key
    have hone := rawsCells_one hraw
    have hlen := hraw.1
    obtain ⟨nl, hnl⟩ : ∃ n, n = l.length := ⟨_, rfl⟩
    rw [← hnl] at hlen hb ⊢
    have HRAW := Lib.hid hraw
    have HC := Lib.hid hcells
    have HO := Lib.hid hone
    have HL := Lib.hid hlen
    have HNL := Lib.hid hnl
    have HN := Lib.hid hN
    have HBD := Lib.hid hb
    clear hraw hcells hone hlen hl hnl hN
    go_enter Try.func70, Try.ntmps70
    go_wp2_with (at_builtin; refine wpList_append_own _ rfl _ _ 46 rfl w.heap.size 49 i0 (.agg #[.bool false, .int .i64 0, .int .i64 0, .slice none 0 0, .int .i64 0, .slice none 0 0]) 6 80 Try.underlying46 hi hz0 hz1 hz2 rfl (by decide) _ _ _ rfl (World.ownsRow_made w #[] 0 (Nat.le_refl _) (Nat.zero_le _) rfl) ad nl c (rawsCells rs) rfl ?qc1 ?qc2 ?qc3 ?qc4 ?qc5 ?qc6 ?_)
    case qc1 => rw [rawsCells_len, HL.out]
    case qc2 => exact fun j u hj => Lib.cell?_alloc_some _ (HC.out j u hj)
    case qc3 => exact HO.out
    case qc4 => have := HBD.out; unfold maxLen; omega
    case qc5 => have := HBD.out; omega
    case qc6 => simp
    intro v' w1 hown hgrow _
    have hbl : Below w.heap.size w w1 := ((Below.refl _ w).alloc (Nat.le_refl _) _).grown hgrow (by simp) (by intro k hk; simp [Value.ownBlock] at hk; omega)
    have hown' : w1.ownsRow w.heap.size 49 6 v' rs.length (rawsCells rs) := by rw [HL.out]; simpa using hown
    have hlo : ∀ g, v'.ownBlock = some g → Lo N w1 g := fun g hg => by
      have := hown'.lt g hg
      exact ⟨this.2, fun h => by have := HN.out g h; omega⟩
    have hts : TyS w1 (Lo N w1) v' l := TyS.of_own hown' (by have := HBD.out; rw [HNL.out] at this; unfold maxLen; omega) hlo (HRAW.out.mono (fun _ h => ⟨Nat.lt_of_lt_of_le h.1 hbl.size, h.2⟩) fun _ _ h => hbl.cell (p := ⟨_, _, none⟩) h.1)
    have HT := Lib.hid hts
    have HB := Lib.hid hbl
    obtain ⟨va, vc, rfl⟩ := hts.val
    clear hts hbl hown hown' hgrow hlo
    go_wp2
    go_ret
    exact ⟨⟨_, rfl, HT.out⟩, HB.out⟩
end Go.Proofs.Ytgjkobkcmgliaaa

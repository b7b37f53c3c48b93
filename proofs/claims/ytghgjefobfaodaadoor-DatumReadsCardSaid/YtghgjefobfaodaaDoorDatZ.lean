import Derived.Test.YtghgjefobfaodaaDoorDatN
import Derived.Test.YtghgjefobfaodaaDoorDatX
namespace Go.Proofs.YtghgjefobfaodaaDoor
open Go.RowKit

set_option maxRecDepth 100000 in
set_option maxHeartbeats 1000000 in
theorem refPrint_any (d : Dat) (sv : Value) (w : World) (hw : wt d ≤ 10000) (hs : SliceOf w (· < w.heap.size) sv d.list) :
    Calls Tryd.prog 13 #[.agg #[.int .i64 d.kind, .string d.text, sv]] w fun e w' => e = .returned (.tuple #[.string (printS d), .int .i64 (printE d)]) ∧ Below w.heap.size w w' := by
  have R := fun w' h => refRight_any d sv w' hw h
  rw [rightR_eq] at R
  have T := fun w' h => text_all 60 d sv w' h hw
  have HS := Lib.hid hs
  have hps : printS d = if rightD 60 d then ⟨(textD d).toArray⟩ else ⟨#[]⟩ := rfl
  have hpe : printE d = if rightD 60 d then 0 else 1 := rfl
  obtain ⟨tx, htx⟩ : ∃ tx, tx = textD d := ⟨_, rfl⟩
  rw [← htx] at hps T
  obtain ⟨k, hk⟩ : ∃ k, k = d.kind := ⟨_, rfl⟩
  obtain ⟨t, ht⟩ : ∃ t, t = d.text := ⟨_, rfl⟩
  rw [← hk, ← ht] at R T ⊢
  clear hk ht htx
  cases hr : rightD 60 d
  · rw [hr] at R hps hpe
    have HR := Lib.hid R
    have HPS : Hid (printS d = ⟨#[]⟩) := hps
    have HPE : Hid (printE d = 1) := hpe
    clear R T hs hps hpe hr
    go_enter Tryd.func13, Tryd.ntmps13
    go_wp2_with fail
    refine (HR.out _ ((HS.out.under ((Below.refl _ _).alloc (Nat.le_refl _) _)).grow (by simp))).mono ?_
    rintro e w' ⟨rfl, hb⟩
    have HB := Lib.hid hb
    clear hb
    go_wp2
    go_ret2
    exact ⟨by rw [HPS.out, HPE.out]; rfl, ((Below.refl _ _).alloc (Nat.le_refl _) _).trans (HB.out.mono (by simp))⟩
  · rw [hr] at R hps hpe
    have HR := Lib.hid R
    have HT : Hid _ := Lib.hid fun w' h => T w' hr h
    have HPS : Hid (printS d = ⟨tx.toArray⟩) := hps
    have HPE : Hid (printE d = 0) := hpe
    clear R T hs hps hpe hr
    go_enter Tryd.func13, Tryd.ntmps13
    go_wp2_with fail
    refine (HR.out _ ((HS.out.under ((Below.refl _ _).alloc (Nat.le_refl _) _)).grow (by simp))).mono ?_
    rintro e w' ⟨rfl, hb⟩
    have e0 : w'.cell? ⟨w.heap.size, 0, none⟩ = some (.int .i64 k) := (hb.cell (p := ⟨_, _, _⟩) (by simp)).trans (by simp [go_sem])
    have e1 : w'.cell? ⟨w.heap.size, 1, none⟩ = some (.string t) := (hb.cell (p := ⟨_, _, _⟩) (by simp)).trans (by simp [go_sem])
    have e2 : w'.cell? ⟨w.heap.size, 2, none⟩ = some sv := (hb.cell (p := ⟨_, _, _⟩) (by simp)).trans (by simp [go_sem])
    have HB := Lib.hid (((Below.refl w.heap.size w).alloc (Nat.le_refl _) _).trans (hb.mono (by simp)))
    have hsz := hb.size
    simp at hsz
    clear hb
    have hlt : w.heap.size < w'.heap.size := by omega
    have hne : ¬ w.heap.size = w'.heap.size := by omega
    go_wp2_with fail
    refine (HT.out _ ((HS.out.under HB.out).grow (by omega))).mono ?_
    rintro e w3 ⟨rfl, hb3⟩
    have HB3 := Lib.hid hb3
    clear hb3
    go_wp2
    go_ret2
    exact ⟨by rw [HPS.out, HPE.out]; rfl, HB.out.trans (HB3.out.mono (by omega))⟩

/-- what may be is no deeper -/
theorem right_hgt : ∀ (n : Nat) (d : Dat), rightD n d = true → hgt d ≤ n
  | 0, d, h => by
    by_cases h5 : d.kind = 5
    · have e : rightD 0 d = false := if_pos h5
      rw [e] at h; cases h
    · have e : rightD 0 d = leafC d := if_neg h5
      rw [e] at h
      rw [hgt_mk, (leafC_facts h).2.2.2]
      exact Nat.le_refl _
  | n + 1, d, h => by
    by_cases h5 : d.kind = 5
    · have e : rightD (n + 1) d = (decide (d.text.size = 0) && d.list.all (rightD n)) := if_pos h5
      rw [e, Bool.and_eq_true] at h
      rw [hgt_mk]
      have key : ∀ l : List Dat, l.all (rightD n) = true → hgts l ≤ n + 1 := by
        intro l
        induction l with
        | nil => intro _; simp [hgts]
        | cons x r ih =>
          intro hl
          simp only [List.all_cons, Bool.and_eq_true] at hl
          have := right_hgt n x hl.1
          have := ih hl.2
          simp only [hgts]; omega
      exact key _ h.2
    · have e : rightD (n + 1) d = leafC d := if_neg h5
      rw [e] at h
      rw [hgt_mk, (leafC_facts h).2.2.2]
      exact Nat.zero_le _

/-- how much a half read text weighs -/
def held : List Fr → Nat
  | [] => 0
  | f :: r => wts f.2 + 1 + held r
theorem held_push : ∀ (fs : List Fr) (base : List Dat) (d : Dat), held (pushD fs base d).1 + wts (pushD fs base d).2 ≤ held fs + wts base + wt d
  | [], base, d => by simp only [pushD, held, wts_app, wts]; omega
  | (false, es) :: fs, base, d => by simp only [pushD, held, wts_app, wts]; omega
  | (true, es) :: fs, base, d => by
    have := held_push fs base (listD (es ++ [d]))
    have e : wt (listD (es ++ [d])) = 1 + 0 + wts (es ++ [d]) := wt_eq _
    rw [wts_app] at e
    simp only [wts] at e
    simp only [pushD, held]; omega
theorem run_wt (N : Int) : ∀ (ts : List Tok) (fs : List Fr) (base l : List Dat), (∀ t ∈ ts, okTok t) → runD N fs base ts = .ok l → wts l ≤ held fs + wts base + 8 * ts.length + tsum ts
  | [], fs, base, l, _, he => by
    cases fs with
    | nil => rw [runD_done] at he; cases he; simp [held, tsum]
    | cons x q => rw [runD_nil] at he; cases he
  | t :: r, fs, base, l, hv, he => by
    have hvt := hv t (by simp)
    have hvr : ∀ u ∈ r, okTok u := fun u hu => hv u (by simp [hu])
    have hts : tsum (t :: r) = t.text.size + tsum r := by simp [tsum]
    simp only [List.length_cons]
    by_cases k1 : t.kind = 1
    · rw [runD_open N fs base r k1] at he
      by_cases hl : 60 ≤ fs.length
      · rw [if_pos hl] at he; cases he
      · rw [if_neg hl] at he
        have := run_wt N r _ base l hvr he
        simp only [held, wts] at this; omega
    by_cases k3 : t.kind = 3
    · rw [runD_quote N fs base r k3] at he
      by_cases hl : 60 ≤ fs.length
      · rw [if_pos hl] at he; cases he
      · rw [if_neg hl] at he
        have := run_wt N r _ base l hvr he
        have hq : wt quoteD = 6 := rfl
        simp only [held, wts, hq] at this; omega
    by_cases k2 : t.kind = 2
    · match fs, he with
      | [], he => rw [runD_close_bad N [] base r k2 (.inl rfl)] at he; cases he
      | (true, es) :: q, he => rw [runD_close_bad N _ base r k2 (.inr ⟨_, _, rfl⟩)] at he; cases he
      | (false, es) :: q, he =>
        rw [runD_close N q base r k2] at he
        have := run_wt N r _ _ l hvr he
        have hp := held_push q base (listD es)
        have e : wt (listD es) = 1 + 0 + wts es := wt_eq _
        simp only [held]; omega
    by_cases k5 : t.kind = 5
    · rw [runD_num N fs base r k5] at he
      by_cases hd : 200 < digs t.text
      · rw [if_pos hd] at he; cases he
      · rw [if_neg hd] at he
        have := run_wt N r _ _ l hvr he
        have hp := held_push fs base (.mk 2 ⟨(plainR t.text.data.toList).toArray⟩ [])
        have e : wt (.mk 2 ⟨(plainR t.text.data.toList).toArray⟩ []) = 1 + (⟨(plainR t.text.data.toList).toArray⟩ : ByteArray).size + 0 := wt_eq _
        have e2 : (⟨(plainR t.text.data.toList).toArray⟩ : ByteArray).size = (plainR t.text.data.toList).length := by simp [ByteArray.size]
        have e3 := (plain_facts (hvt.2.2 k5)).2.2
        have e4 : t.text.data.toList.length = t.text.size := Array.length_toList
        omega
    · rw [runD_leaf N fs base r k1 k2 k3 k5] at he
      have := run_wt N r _ _ l hvr he
      have hp := held_push fs base (.mk (t.kind - 3) t.text [])
      have e : wt (.mk (t.kind - 3) t.text []) = 1 + t.text.size + 0 := wt_eq _
      omega
theorem read_wt {N : Nat} {s : List UInt8} {l : List Dat} (h : readN N s = .ok l) (hs : s.length ≤ N) : wts l ≤ 9 * s.length := by
  unfold readN at h
  cases hx : lexN N s with
  | err p c => rw [hx] at h; cases h
  | ok ts =>
    rw [hx] at h
    have h1 := run_wt N ts [] [] l (fun t ht => ((lex_all hx hs).1 t ht).2.1) h
    obtain ⟨h2, h3⟩ := lex_sum N s.length s (Nat.le_refl _) ts hx
    simp only [held, wts] at h1; omega
end Go.Proofs.YtghgjefobfaodaaDoor

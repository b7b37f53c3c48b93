import Derived.Test.YtibhfcnjmilepaaDoorNumW
namespace Go.Proofs.YtibhfcnjmilepaaDoor
open Go.RowKit

/-- 'addTimes', a round: the row, what is carried -/
def TimesRel (g : Nat) (A C b : List Nat) (m f T : Nat) (w : World) (c i : Value) (wr : World) : Prop :=
  ∃ (D R : List Nat) (k cy : Nat), k = D.length ∧ D.length + R.length = m ∧ i = .int .i64 k ∧ c = .int .u64 cy ∧ Hid (cy < bigB ∧ okB D ∧ okB R) ∧ Hid (valB D + bigB ^ D.length * (cy + valB R + f * valB (b.drop D.length)) = T) ∧ Hid (Bk wr g (A ++ (D ++ R) ++ C)) ∧ Hid (Keep g w wr)
def TimesPost (g : Nat) (A C : List Nat) (m T : Nat) (w : World) (e : Ending) (w' : World) : Prop :=
  ∃ l', e = .returned (.tuple #[]) ∧ l'.length = m + 1 ∧ okB l' ∧ valB l' = T ∧ Bk w' g (A ++ l' ++ C) ∧ Keep g w w'
theorem times_next {g : Nat} {A C b : List Nat} {m f T : Nat} {w wz : World} {D R' : List Nat} {k s d : Nat} {vo vi : Int} (hk : k = D.length) (hlen : D.length + (R'.length + 1) = m) (hD : okB D) (hR : okB R')
    (hst : valB (D ++ [s % bigB]) + bigB ^ (D.length + 1) * (s / bigB + valB R' + f * valB (b.drop (D.length + 1))) = T)
    (hd : d = s % bigB) (hs : s / bigB < bigB) (hvo : vo = (s / bigB : Nat)) (hvi : vi = (k : Int) + 1) (hB : Bk wz g (A ++ (D ++ d :: R') ++ C)) (hK : Keep g w wz) : TimesRel g A C b m f T w (.int .u64 vo) (.int .i64 vi) wz := by
  subst hd
  refine ⟨D ++ [s % bigB], R', k + 1, s / bigB, by rw [snoc_len, hk], by rw [snoc_len]; omega, by rw [hvi]; congr 1, by rw [hvo], ⟨hs, okB_snoc hD (Nat.mod_lt _ bigB_pos), hR⟩, ?_, by rw [snoc_mid] at hB; exact hB, hK⟩
  show _ = _
  rw [snoc_len]
  exact hst
theorem prod_lt {f y : Nat} (hf : f < bigB) (hy : y < bigB) : (f : Int) * y ≤ 999999998000000001 ∧ (0 : Int) ≤ (f : Int) * y := by
  have h1 : f * y ≤ (bigB - 1) * (bigB - 1) := Nat.mul_le_mul (by omega) (by omega)
  rw [bigB_eq] at h1
  have h2 : ((f * y : Nat) : Int) = (f : Int) * y := Int.natCast_mul f y
  omega

set_option maxRecDepth 100000 in
set_option maxHeartbeats 4000000 in
theorem addTimes_any (g off n m cap f z : Nat) (A l C b : List Nat) (hoff : off = A.length) (hm : m = b.length) (hl' : l.length = m) (hmn : m < n) (hb : okB b) (hl : okB l) (hn6 : n ≤ 1000000) (hf : f < bigB) (vb : Value) (w : World) (hk : Bk w g (A ++ l ++ z :: C)) (hr : Rd g w vb b) :
    Calls Tryd.prog 61 #[.slice (some ⟨g, off, none⟩) n cap, vb, .int .u32 f] w (TimesPost g A C m (valB l + f * valB b) w) := by
  obtain ⟨pa, pc, rfl⟩ := hr.val
  rw [← hm] at hr ⊢
  have HR := Lib.hid hr
  have HK := Lib.hid hk
  have HM := Lib.hid hm
  have HL := Lib.hid hl'
  have HO := Lib.hid hoff
  have HBO := Lib.hid hb
  have HLO := Lib.hid hl
  have HF := Lib.hid hf
  obtain ⟨T, hT⟩ : ∃ T, T = valB l + f * valB b := ⟨_, rfl⟩
  have HT := Lib.hid hT
  rw [← hT]
  have f0 : (0 : Int) ≤ f := Int.natCast_nonneg _
  have fB : (f : Int) < 1000000000 := by have := bigB_eq; omega
  have hmn2 : (m : Int) < n := by omega
  clear hr hk hm hl' hoff hb hl hT hf
  go_enter Tryd.func61, Tryd.ntmps61
  go_wp2
  go_loopw [6, 11] (fun c i wr => TimesRel g A (z :: C) b m f T w c i wr) (fun _ i _ => m - (intOf i).toNat)
  case atStart => exact ⟨[], l, 0, 0, rfl, by simp [HL.out], rfl, rfl, Lib.hid ⟨bigB_pos, okB_nil, HLO.out⟩, Lib.hid (by simp [valB, HT.out]), HK, Lib.hid (Keep.refl _ _)⟩
  case round =>
    obtain ⟨D, R, k, cy, hk, hDR, rfl, rfl, HC, HV, HB, HKP⟩ := hrel
    have k0 : (0 : Int) ≤ k := Int.natCast_nonneg _
    have cy0 : (0 : Int) ≤ cy := Int.natCast_nonneg _
    have cyB : (cy : Int) < 1000000000 := by have := HC.out.1; have := bigB_eq; omega
    by_cases hgo : k < m
    · have g1 : (k : Int) < m := by omega
      have g3 : (k : Int) < n := by omega
      obtain ⟨x, R', rfl⟩ : ∃ x R', R = x :: R' := by
        cases R with
        | nil => simp at hDR; omega
        | cons x R' => exact ⟨x, R', rfl⟩
      have hx := (okB_cons HC.out.2.2).1
      have HR' := Lib.hid (okB_cons HC.out.2.2).2
      have hxB : (x : Int) < 1000000000 := by have := bigB_eq; omega
      have x0 : (0 : Int) ≤ x := Int.natCast_nonneg _
      have hA : off + k = A.length + D.length := by rw [HO.out, hk]
      have hcx : wr.cell? ⟨g, off + k, none⟩ = some (.int .u32 x) := by rw [hA]; exact HB.out.cell (get_mid A D R' (z :: C) x)
      have hfx : wr.frozen? ⟨g, off + k, none⟩ = false := HB.out.frozen _
      have HA := Lib.hid hA
      have HB1 : Hid (Bk wr g (A ++ (D ++ x :: R') ++ z :: C)) := HB
      have HKN := Lib.hid hk
      obtain ⟨y, hy⟩ : ∃ y, y = b.getD k 0 := ⟨_, rfl⟩
      have hyN : y < bigB := by rw [hy]; exact okB_getD HBO.out k
      have hyB : (y : Int) < 1000000000 := by have := bigB_eq; omega
      have y0 : (0 : Int) ≤ y := Int.natCast_nonneg _
      have hpr := prod_lt HF.out hyN
      obtain ⟨hpr1, hpr2⟩ := hpr
      have hstep : valB (D ++ [(x + f * y + cy) % bigB]) + bigB ^ (D.length + 1) * ((x + f * y + cy) / bigB + valB R' + f * valB (b.drop (D.length + 1))) = T := by
        rw [valB_snoc, Nat.pow_succ]
        refine times_step (x := x) (c := cy) (y := y) ?_ rfl
        have := HV.out
        rw [valB, valB_dropD b D.length, ← hk, ← hy] at this
        rw [← hk]
        exact this
      have HST := Lib.hid hstep
      have HLEN : Hid (D.length + (R'.length + 1) = m) := hDR
      have HOKD := Lib.hid HC.out.2.1
      obtain ⟨a, c, hac, hrd⟩ := HR.out
      cases hac
      obtain ⟨b2, off2, rfl, hne, hb2, hcy2⟩ := hrd k (by have := HM.out; omega)
      rw [← hy] at hcy2
      have hcyw : wr.cell? ⟨b2, off2 + k, none⟩ = some (.int .u32 y) := (World.cell?_of_block (HKP.out.block b2 hne)).trans hcy2
      clear hx hk hstep hA hDR HC HV HB hyN hrd hcy2 hy
      go_wp2_with fail
      go_quiet (fail)
      go_wp2
      go_roundw
      case rel => exact times_next HKN.out HLEN.out HOKD.out HR'.out HST.out rfl (by rw [bigB_eq]; omega) (by rw [bigB_eq]; omega) rfl (bk_put (HB1.out.drewN nq) HA.out _ _ (by rw [bigB_eq]; omega)) ((HKP.out.drewN nq).setCell _ _)
      case measure => simp [intOf]; omega
    · have g1 : ¬ (k : Int) < m := by omega
      have hkn : k = m := by omega
      have hR : R = [] := List.length_eq_zero_iff.1 (by omega)
      subst hR
      have hres : valB (D ++ [cy]) = T := by
        have := HV.out
        rw [← hk, hkn, List.drop_of_length_le (by have := HM.out; omega)] at this
        simp only [valB, Nat.add_zero, Nat.mul_zero] at this
        rw [valB_snoc, ← hk, hkn]
        exact this
      have HRES := Lib.hid hres
      have HDL := Lib.hid (show D.length = m by omega)
      have hA : off + m = A.length + D.length := by rw [HO.out, HDL.out]
      have HB2 : Hid (Bk wr g (A ++ (D ++ z :: []) ++ C)) := by have := HB.out; rw [List.append_nil] at this; show Bk _ _ _; rw [show A ++ (D ++ [z]) ++ C = A ++ D ++ z :: C by simp]; exact this
      have hcx : wr.cell? ⟨g, off + m, none⟩ = some (.int .u32 z) := by rw [hA]; exact HB2.out.cell (get_mid A D [] C z)
      have hfx : wr.frozen? ⟨g, off + m, none⟩ = false := HB2.out.frozen _
      have HA := Lib.hid hA
      have HOD := Lib.hid HC.out.2.1
      have HCY := Lib.hid HC.out.1
      clear hres HV HB HC hk hkn hDR hA
      go_wp2
      go_end0
      exact ⟨D ++ [cy], rfl, by rw [snoc_len, HDL.out], okB_snoc HOD.out HCY.out, HRES.out, bk_put HB2.out HA.out _ _ rfl, HKP.out.setCell _ _⟩
end Go.Proofs.YtibhfcnjmilepaaDoor

import Derived.Test.YtibhfcnjmilepaaDoorNumV
namespace Go.Proofs.YtibhfcnjmilepaaDoor
open Go.RowKit

theorem snoc_len {α : Type} (D : List α) (d : α) : (D ++ [d]).length = D.length + 1 := by simp
/-- 'addTo', a round: the row, what is carried -/
def AddRel (g : Nat) (A C b : List Nat) (n : Nat) (T : Nat) (w : World) (c i : Value) (wr : World) : Prop :=
  ∃ (D R : List Nat) (k cy : Nat), k = D.length ∧ D.length + R.length = n ∧ i = .int .i64 k ∧ c = .int .u32 cy ∧ Hid (cy ≤ 1 ∧ okB D ∧ okB R) ∧ Hid (valB D + bigB ^ D.length * (cy + valB R + valB (b.drop D.length)) = T) ∧ Hid (Bk wr g (A ++ (D ++ R) ++ C)) ∧ Hid (Keep g w wr)
def AddPost (g : Nat) (A C : List Nat) (n T : Nat) (w : World) (e : Ending) (w' : World) : Prop :=
  e = .returned (.tuple #[]) ∧ (∃ l' c, l'.length = n ∧ okB l' ∧ valB l' + bigB ^ n * c = T ∧ Bk w' g (A ++ l' ++ C)) ∧ Keep g w w'

set_option maxRecDepth 100000 in
set_option maxHeartbeats 4000000 in
theorem addTo_any (g off n cap : Nat) (A l C b : List Nat) (hoff : off = A.length) (hn : n = l.length) (hb : okB b) (hl : okB l) (hbl : b.length ≤ n) (hn6 : n ≤ 1000000) (vb : Value) (w : World) (hk : Bk w g (A ++ l ++ C)) (hr : Rd g w vb b) :
    Calls Tryd.prog 57 #[.slice (some ⟨g, off, none⟩) n cap, vb] w (AddPost g A C n (valB l + valB b) w) := by
  obtain ⟨pa, pc, rfl⟩ := hr.val
  obtain ⟨m, hm⟩ : ∃ m, m = b.length := ⟨_, rfl⟩
  rw [← hm] at hr hbl ⊢
  have HR := Lib.hid hr
  have HK := Lib.hid hk
  have HM := Lib.hid hm
  have HN := Lib.hid hn
  have HO := Lib.hid hoff
  have HBO := Lib.hid hb
  have HLO := Lib.hid hl
  obtain ⟨T, hT⟩ : ∃ T, T = valB l + valB b := ⟨_, rfl⟩
  rw [← hT]
  have HT := Lib.hid hT
  clear hr hk hm hn hoff hb hl hT
  go_enter Tryd.func57, Tryd.ntmps57
  go_wp2
  go_loopw [4, 9] (fun c i wr => AddRel g A C b n T w c i wr) (fun _ i _ => n - (intOf i).toNat)
  case atStart => exact ⟨[], l, 0, 0, rfl, by simp [HN.out], rfl, rfl, Lib.hid ⟨by omega, okB_nil, HLO.out⟩, Lib.hid (by simp [valB, HT.out]), HK, Lib.hid (Keep.refl _ _)⟩
  case round =>
    obtain ⟨D, R, k, cy, hk, hDR, rfl, rfl, HC, HV, HB, HKP⟩ := hrel
    have k0 : (0 : Int) ≤ k := Int.natCast_nonneg _
    have cy0 : (0 : Int) ≤ cy := Int.natCast_nonneg _
    have hcy : (cy : Int) ≤ 1 := by have := HC.out.1; omega
    by_cases hgo : k < n
    · have g1 : (k : Int) < n := by omega
      obtain ⟨x, R', rfl⟩ : ∃ x R', R = x :: R' := by
        cases R with
        | nil => simp at hDR; omega
        | cons x R' => exact ⟨x, R', rfl⟩
      have hx := (okB_cons HC.out.2.2).1
      have HR' := Lib.hid (okB_cons HC.out.2.2).2
      have hxB : (x : Int) < 1000000000 := by have := bigB_eq; omega
      have x0 : (0 : Int) ≤ x := Int.natCast_nonneg _
      have hA : off + k = A.length + D.length := by rw [HO.out, hk]
      have hcx : wr.cell? ⟨g, off + k, none⟩ = some (.int .u32 x) := by rw [hA]; exact HB.out.cell (get_mid A D R' C x)
      have hfx : wr.frozen? ⟨g, off + k, none⟩ = false := HB.out.frozen _
      have hset : ∀ d, Bk (wr.setCell ⟨g, off + k, none⟩ (.int .u32 (d : Nat))) g (A ++ ((D ++ [d]) ++ R') ++ C) := fun d => by
        have := HB.out.set (off + k) d (by rw [hA]; simp)
        rw [hA, set_mid, snoc_mid, ← hA] at this
        exact this
      have HSET := Lib.hid hset
      have HKN := Lib.hid hk
      obtain ⟨y, hy⟩ : ∃ y, y = b.getD k 0 := ⟨_, rfl⟩
      have hyB : (y : Int) < 1000000000 := by have := okB_getD HBO.out k; have := bigB_eq; omega
      have y0 : (0 : Int) ≤ y := Int.natCast_nonneg _
      have hstep : valB (D ++ [(x + cy + y) % bigB]) + bigB ^ (D.length + 1) * ((x + cy + y) / bigB + valB R' + valB (b.drop (D.length + 1))) = T := by
        rw [valB_snoc, Nat.pow_succ]
        refine addTo_step (x := x) (c := cy) (y := y) ?_ rfl
        have := HV.out
        rw [valB, valB_dropD b D.length, ← hk, ← hy] at this
        rw [← hk]
        exact this
      have HST := Lib.hid hstep
      have hlen : (D ++ [(x + cy + y) % bigB]).length + R'.length = n := by simp at hDR ⊢; omega
      have HLEN := Lib.hid hlen
      have hokD : okB (D ++ [(x + cy + y) % bigB]) := okB_snoc HC.out.2.1 (Nat.mod_lt _ bigB_pos)
      have HOKD := Lib.hid hokD
      clear hx hset hk hstep hlen hokD hA hDR HC HV HB
      by_cases hkm : k < m
      · have g2 : (k : Int) < m := by omega
        obtain ⟨a, c, hac, hrd⟩ := HR.out
        cases hac
        obtain ⟨b2, off2, rfl, hne, hb2, hcy2⟩ := hrd k (by have := HM.out; omega)
        rw [← hy] at hcy2
        have hcyw : wr.cell? ⟨b2, off2 + k, none⟩ = some (.int .u32 y) := (World.cell?_of_block (HKP.out.block b2 hne)).trans hcy2
        clear hrd hcy2 hy
        go_wp2
        go_roundw
        case rel => exact ⟨D ++ [(x + cy + y) % bigB], R', k + 1, (x + cy + y) / bigB, by rw [snoc_len, HKN.out], HLEN.out, by go_num, by rw [bigB_eq]; go_num, Lib.hid ⟨by rw [bigB_eq]; omega, HOKD.out, HR'.out⟩, Lib.hid (by rw [snoc_len]; exact HST.out), Lib.hid (by have := HSET.out ((x + cy + y) % bigB); rwa [bigB_eq] at this ⊢), Lib.hid (HKP.out.setCell _ _)⟩
        case measure => simp [intOf]; omega
      · have g2 : ¬ (k : Int) < m := by omega
        have hy0 : y = 0 := by rw [hy, List.getD_eq_getElem?_getD, List.getElem?_eq_none (by have := HM.out; omega)]; rfl
        clear hy
        subst hy0
        rw [Nat.add_zero] at HST HLEN HOKD
        go_wp2
        go_roundw
        case rel => exact ⟨D ++ [(x + cy) % bigB], R', k + 1, (x + cy) / bigB, by rw [snoc_len, HKN.out], HLEN.out, by go_num, by rw [bigB_eq]; go_num, Lib.hid ⟨by rw [bigB_eq]; omega, HOKD.out, HR'.out⟩, Lib.hid (by rw [snoc_len]; exact HST.out), Lib.hid (by have := HSET.out ((x + cy) % bigB); rwa [bigB_eq] at this ⊢), Lib.hid (HKP.out.setCell _ _)⟩
        case measure => simp [intOf]; omega
    · have g1 : ¬ (k : Int) < n := by omega
      have hkn : k = n := by omega
      have hR : R = [] := List.length_eq_zero_iff.1 (by omega)
      subst hR
      have hres : valB D + bigB ^ n * cy = T := by
        have := HV.out
        rw [← hk, hkn, List.drop_of_length_le (by have := HM.out; omega)] at this
        simp only [valB, Nat.add_zero] at this
        exact this
      have HRES := Lib.hid hres
      have HDL := Lib.hid (show D.length = n by omega)
      have HB2 : Hid (Bk wr g (A ++ D ++ C)) := by have := HB.out; rw [List.append_nil] at this; exact this
      have HOD := Lib.hid HC.out.2.1
      clear hres HV HB HC hk hkn hDR
      go_wp2
      go_end0
      exact ⟨rfl, ⟨D, cy, HDL.out, HOD.out, HRES.out, HB2.out⟩, HKP.out⟩
/-- 'takeFrom', a round: the row, what is owed -/
def TakeRel (g : Nat) (A C b : List Nat) (n f T1 T2 : Nat) (w : World) (o i : Value) (wr : World) : Prop :=
  ∃ (D R : List Nat) (k ow : Nat), k = D.length ∧ D.length + R.length = n ∧ i = .int .i64 k ∧ o = .int .u64 ow ∧ Hid (ow ≤ f ∧ okB D ∧ okB R) ∧ Hid (T1 + bigB ^ D.length * (ow + f * valB (b.drop D.length)) = valB D + bigB ^ D.length * valB R + T2) ∧ Hid (Bk wr g (A ++ (D ++ R) ++ C)) ∧ Hid (Keep g w wr)
def TakePost (g : Nat) (A C : List Nat) (n T1 T2 : Nat) (w : World) (e : Ending) (w' : World) : Prop :=
  ∃ l' o, e = .returned (.bool (decide (0 < o))) ∧ l'.length = n ∧ okB l' ∧ T1 + bigB ^ n * o = valB l' + T2 ∧ Bk w' g (A ++ l' ++ C) ∧ Keep g w w'
theorem prod_le {f y : Nat} (hf : f ≤ bigB) (hy : y < bigB) : (f : Int) * y ≤ 1000000000000000000 ∧ (0 : Int) ≤ (f : Int) * y := by
  have h1 : f * y ≤ bigB * bigB := Nat.mul_le_mul hf (by omega)
  rw [bigB_eq] at h1
  have h2 : ((f * y : Nat) : Int) = (f : Int) * y := Int.natCast_mul f y
  omega
theorem bk_put {w : World} {g o : Nat} {A D R C : List Nat} {p : Nat} (hb : Bk w g (A ++ (D ++ p :: R) ++ C)) (hA : o = A.length + D.length) (d : Nat) (v : Int) (hv : v = d) : Bk (w.setCell ⟨g, o, none⟩ (.int .u32 v)) g (A ++ (D ++ d :: R) ++ C) := by
  subst hv
  have := hb.set o d (by rw [hA]; simp)
  rw [hA, set_mid, ← hA] at this
  exact this
theorem take_next {g : Nat} {A C b : List Nat} {n f T1 T2 : Nat} {w wz : World} {D R' : List Nat} {k x y ow t : Nat} (x' o' : Nat) {vo vi : Int} (hk : k = D.length) (hlen : D.length + (R'.length + 1) = n) (hD : okB D) (hR : okB R') (_ht : t = ow + f * y)
    (hst : ∀ x' o', x' + t = x + bigB * o' → T1 + bigB ^ (D.length + 1) * (o' + f * valB (b.drop (D.length + 1))) = valB (D ++ [x']) + bigB ^ (D.length + 1) * valB R' + T2)
    (hxo : x' + t = x + bigB * o') (hx' : x' < bigB) (ho' : o' ≤ f) (hvo : vo = o') (hvi : vi = (k : Int) + 1) (hB : Bk wz g (A ++ (D ++ x' :: R') ++ C)) (hK : Keep g w wz) : TakeRel g A C b n f T1 T2 w (.int .u64 vo) (.int .i64 vi) wz := by
  refine ⟨D ++ [x'], R', k + 1, o', by rw [snoc_len, hk], by rw [snoc_len]; omega, by rw [hvi]; congr 1, by rw [hvo], ⟨ho', okB_snoc hD hx', hR⟩, ?_, by rw [snoc_mid] at hB; exact hB, hK⟩
  have := hst x' o' hxo
  show _ = _
  rw [snoc_len]
  exact this

set_option maxRecDepth 100000 in
set_option maxHeartbeats 4000000 in
theorem takeFrom_any (g off n cap f : Nat) (A l C b : List Nat) (hoff : off = A.length) (hn : n = l.length) (hb : okB b) (hl : okB l) (hbl : b.length ≤ n) (hn6 : n ≤ 1000000) (hf : f ≤ bigB) (vb : Value) (w : World) (hk : Bk w g (A ++ l ++ C)) (hr : Rd g w vb b) :
    Calls Tryd.prog 60 #[.slice (some ⟨g, off, none⟩) n cap, vb, .int .u32 f] w (TakePost g A C n (valB l) (f * valB b) w) := by
  obtain ⟨pa, pc, rfl⟩ := hr.val
  obtain ⟨m, hm⟩ : ∃ m, m = b.length := ⟨_, rfl⟩
  rw [← hm] at hr hbl ⊢
  have HR := Lib.hid hr
  have HK := Lib.hid hk
  have HM := Lib.hid hm
  have HN := Lib.hid hn
  have HO := Lib.hid hoff
  have HBO := Lib.hid hb
  have HLO := Lib.hid hl
  have HF := Lib.hid hf
  obtain ⟨T1, hT1⟩ : ∃ T, T = valB l := ⟨_, rfl⟩
  obtain ⟨T2, hT2⟩ : ∃ T, T = f * valB b := ⟨_, rfl⟩
  have HT1 := Lib.hid hT1
  have HT2 := Lib.hid hT2
  rw [← hT1, ← hT2]
  have f0 : (0 : Int) ≤ f := Int.natCast_nonneg _
  have fB : (f : Int) ≤ 1000000000 := by have := bigB_eq; omega
  clear hr hk hm hn hoff hb hl hT1 hT2 hf
  go_enter Tryd.func60, Tryd.ntmps60
  go_wp2
  go_loopw [7, 12] (fun c i wr => TakeRel g A C b n f T1 T2 w c i wr) (fun _ i _ => n - (intOf i).toNat)
  case atStart => exact ⟨[], l, 0, 0, rfl, by simp [HN.out], rfl, rfl, Lib.hid ⟨by omega, okB_nil, HLO.out⟩, Lib.hid (by simp [valB, HT1.out, HT2.out]), HK, Lib.hid (Keep.refl _ _)⟩
  case round =>
    obtain ⟨D, R, k, ow, hk, hDR, rfl, rfl, HC, HV, HB, HKP⟩ := hrel
    have k0 : (0 : Int) ≤ k := Int.natCast_nonneg _
    have o0 : (0 : Int) ≤ ow := Int.natCast_nonneg _
    have oB : (ow : Int) ≤ 1000000000 := by have := HC.out.1; omega
    by_cases hgo : k < n
    · have g1 : (k : Int) < n := by omega
      obtain ⟨x, R', rfl⟩ : ∃ x R', R = x :: R' := by
        cases R with
        | nil => simp at hDR; omega
        | cons x R' => exact ⟨x, R', rfl⟩
      have hx := (okB_cons HC.out.2.2).1
      have HR' := Lib.hid (okB_cons HC.out.2.2).2
      have hxB : (x : Int) < 1000000000 := by have := bigB_eq; omega
      have x0 : (0 : Int) ≤ x := Int.natCast_nonneg _
      have hA : off + k = A.length + D.length := by rw [HO.out, hk]
      have hcx : wr.cell? ⟨g, off + k, none⟩ = some (.int .u32 x) := by rw [hA]; exact HB.out.cell (get_mid A D R' C x)
      have hfx : wr.frozen? ⟨g, off + k, none⟩ = false := HB.out.frozen _
      have HA := Lib.hid hA
      have HB1 : Hid (Bk wr g (A ++ (D ++ x :: R') ++ C)) := HB
      have HKN := Lib.hid hk
      obtain ⟨y, hy⟩ : ∃ y, y = b.getD k 0 := ⟨_, rfl⟩
      have hyN : y < bigB := by rw [hy]; exact okB_getD HBO.out k
      have hyB : (y : Int) < 1000000000 := by have := bigB_eq; omega
      have y0 : (0 : Int) ≤ y := Int.natCast_nonneg _
      have hpr := prod_le HF.out hyN
      obtain ⟨hpr1, hpr2⟩ := hpr
      have how := owed_le (x := x) HC.out.1 hyN
      have HOW := Lib.hid how
      have hstep : ∀ x' o', x' + (ow + f * y) = x + bigB * o' → T1 + bigB ^ (D.length + 1) * (o' + f * valB (b.drop (D.length + 1))) = valB (D ++ [x']) + bigB ^ (D.length + 1) * valB R' + T2 := by
        intro x' o' hx'
        rw [valB_snoc, Nat.pow_succ]
        refine take_step (x := x) (o := ow) (y := y) ?_ hx'
        have := HV.out
        rw [valB, valB_dropD b D.length, ← hk, ← hy] at this
        rw [← hk]
        exact this
      have HST := Lib.hid hstep
      have HLEN : Hid (D.length + (R'.length + 1) = n) := hDR
      have HOKD := Lib.hid HC.out.2.1
      clear hx hk hstep hA hDR HC HV HB hyN how
      by_cases hkm : k < m
      · have g2 : (k : Int) < m := by omega
        obtain ⟨a, c, hac, hrd⟩ := HR.out
        cases hac
        obtain ⟨b2, off2, rfl, hne, hb2, hcy2⟩ := hrd k (by have := HM.out; omega)
        rw [← hy] at hcy2
        have hcyw : wr.cell? ⟨b2, off2 + k, none⟩ = some (.int .u32 y) := (World.cell?_of_block (HKP.out.block b2 hne)).trans hcy2
        clear hrd hcy2 hy
        by_cases hlt : (x : Int) < ((ow : Int) + f * y) % 1000000000
        · go_wp2
          go_roundw
          case rel => exact take_next (x + bigB - (ow + f * y) % bigB) ((ow + f * y) / bigB + 1) HKN.out HLEN.out HOKD.out HR'.out rfl HST.out (by rw [bigB_eq]; omega) (by rw [bigB_eq]; omega) (HOW.out.2 (by rw [bigB_eq]; omega)) (by rw [bigB_eq]; omega) rfl (bk_put (p := x + bigB) (bk_put HB1.out HA.out (x + bigB) _ (by rw [bigB_eq]; omega)) HA.out _ _ (by rw [bigB_eq]; omega)) ((HKP.out.setCell _ _).setCell _ _)
          case measure => simp [intOf]; omega
        · go_wp2
          go_roundw
          case rel => exact take_next (x - (ow + f * y) % bigB) ((ow + f * y) / bigB) HKN.out HLEN.out HOKD.out HR'.out rfl HST.out (by rw [bigB_eq]; omega) (by rw [bigB_eq]; omega) HOW.out.1 (by rw [bigB_eq]; omega) rfl (bk_put HB1.out HA.out _ _ (by rw [bigB_eq]; omega)) (HKP.out.setCell _ _)
          case measure => simp [intOf]; omega
      · have g2 : ¬ (k : Int) < m := by omega
        have hy0 : y = 0 := by rw [hy, List.getD_eq_getElem?_getD, List.getElem?_eq_none (by have := HM.out; omega)]; rfl
        clear hy
        subst hy0
        rw [Nat.mul_zero, Nat.add_zero] at HOW HST
        by_cases hlt : (x : Int) < (ow : Int) % 1000000000
        · go_wp2
          go_roundw
          case rel => exact take_next (y := 0) (x + bigB - ow % bigB) (ow / bigB + 1) HKN.out HLEN.out HOKD.out HR'.out (by rw [Nat.mul_zero, Nat.add_zero]) HST.out (by rw [bigB_eq]; omega) (by rw [bigB_eq]; omega) (HOW.out.2 (by rw [bigB_eq]; omega)) (by rw [bigB_eq]; omega) rfl (bk_put (p := x + bigB) (bk_put HB1.out HA.out (x + bigB) _ (by rw [bigB_eq]; omega)) HA.out _ _ (by rw [bigB_eq]; omega)) ((HKP.out.setCell _ _).setCell _ _)
          case measure => simp [intOf]; omega
        · go_wp2
          go_roundw
          case rel => exact take_next (y := 0) (x - ow % bigB) (ow / bigB) HKN.out HLEN.out HOKD.out HR'.out (by rw [Nat.mul_zero, Nat.add_zero]) HST.out (by rw [bigB_eq]; omega) (by rw [bigB_eq]; omega) HOW.out.1 (by rw [bigB_eq]; omega) rfl (bk_put HB1.out HA.out _ _ (by rw [bigB_eq]; omega)) (HKP.out.setCell _ _)
          case measure => simp [intOf]; omega
    · have g1 : ¬ (k : Int) < n := by omega
      have hkn : k = n := by omega
      have hR : R = [] := List.length_eq_zero_iff.1 (by omega)
      subst hR
      have hres : T1 + bigB ^ n * ow = valB D + T2 := by
        have := HV.out
        rw [← hk, hkn, List.drop_of_length_le (by have := HM.out; omega)] at this
        simp only [valB, Nat.add_zero, Nat.mul_zero] at this
        exact this
      have HRES := Lib.hid hres
      have HDL := Lib.hid (show D.length = n by omega)
      have HB2 : Hid (Bk wr g (A ++ D ++ C)) := by have := HB.out; rw [List.append_nil] at this; exact this
      have HOD := Lib.hid HC.out.2.1
      clear hres HV HB HC hk hkn hDR
      go_wp2
      go_ret
      exact ⟨D, ow, ret_bool rfl, HDL.out, HOD.out, HRES.out, HB2.out, HKP.out⟩
end Go.Proofs.YtibhfcnjmilepaaDoor

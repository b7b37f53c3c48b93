import Derived.Test.YtdjhjapfmbcmlaaDoorTyE
import Derived.StillTailTactics
namespace Go.Proofs.YtdjhjapfmbcmlaaDoor
open Go.RowKit

theorem wrap_in {z : Int} (h0 : -9223372036854775808 ≤ z) (h1 : z ≤ 9223372036854775807) : wrap64 z = z := by unfold wrap64; omega
def okBit (F G j : Nat) : Prop := ¬ (F / 2 ^ j % 2 = 1 ∧ G / 2 ^ j % 2 = 0)
theorem flatSub_iff (F G : Nat) : flatSub F G = true ↔ ∀ j, j < 6 → okBit F G j := by
  have e : ∀ j, ((!(bitOf (F : Int) ((2 ^ j : Nat) : Int) && ((G : Int).tdiv ((2 ^ j : Nat) : Int)).tmod 2 == 0)) = true) ↔ okBit F G j := by
    intro j
    have h1 : (((F : Int).tdiv ((2 ^ j : Nat) : Int)).tmod 2) = ((F / 2 ^ j % 2 : Nat) : Int) := rfl
    have h2 : (((G : Int).tdiv ((2 ^ j : Nat) : Int)).tmod 2) = ((G / 2 ^ j % 2 : Nat) : Int) := rfl
    unfold okBit bitOf
    rw [h1, h2]
    simp only [Bool.not_eq_true', Bool.and_eq_false_iff, beq_eq_false_iff_ne, ne_eq]
    omega
  unfold flatSub
  rw [show ([1, 2, 4, 8, 16, 32] : List Int) = (List.range 6).map (fun j => ((2 ^ j : Nat) : Int)) from rfl, List.all_map, List.all_eq_true]
  constructor
  · intro h j hj
    exact (e j).1 (h j (List.mem_range.2 hj))
  · intro h j hj
    exact (e j).2 (h j (List.mem_range.1 hj))
theorem head_of {t : Ty} (h : okTy t) : 0 ≤ t.flat ∧ t.flat ≤ 63 ∧ 0 ≤ t.pair ∧ t.pair ≤ 2 ∧ 0 ≤ t.fn ∧ t.fn ≤ 2 ∧ (t.all = true → t.flat = 0 ∧ t.pair = 0 ∧ t.fn = 0) ∧
    (t.pairs.length : Int) = (if t.pair = 1 then 2 else if t.pair = 2 then 1 else 0) ∧ (t.fn ≠ 1 → t.funs.length = 0) ∧ (t.fn = 1 → 1 ≤ t.funs.length ∧ t.funs.length ≤ 9) := of_decide_eq_true h.head
theorem car_size {t : Ty} (h : okTy t) (ha : t.all = false) (hp : t.pair ≠ 0) : szT (carT t) < szT t ∧ okTy (carT t) := by
  have hh := head_of h
  have hl : 0 < t.pairs.length := by
    have := hh.2.2.2.2.2.2.2.1
    split at this
    · omega
    · split at this <;> omega
  unfold carT
  rw [ha, if_neg (by simp), if_neg (by omega)]
  exact ⟨szT_pair t 0 hl, h.pair (getT_mem hl)⟩
theorem list_ok {t : Ty} (h : okTy t) : okTy (listT t) := by
  refine okTy.mk ?_ (fun x hx => ?_) (fun x hx => by simp [listT, Ty.funs] at hx)
  · simp [headOK, listT, Ty.flat, Ty.pair, Ty.fn, Ty.all, Ty.pairs, Ty.funs]
  · have : x = t := by simpa [listT, Ty.pairs] using hx
    rw [this]; exact h
theorem cdr_size {t : Ty} (h : okTy t) (ha : t.all = false) (hp : t.pair ≠ 0) : szT (cdrT t) ≤ szT t ∧ (t.pair = 1 → szT (cdrT t) < szT t) ∧ okTy (cdrT t) := by
  have hh := head_of h
  have hl := hh.2.2.2.2.2.2.2.1
  unfold cdrT
  rw [ha, if_neg (by simp)]
  by_cases h2 : t.pair = 2
  · rw [if_neg (by omega), if_pos h2] at hl
    have hl0 : 0 < t.pairs.length := by omega
    rw [if_pos ⟨h2, hl0⟩, szT_list]
    have hsz := szT_pair t 0 hl0
    refine ⟨by omega, by omega, list_ok (h.pair (getT_mem hl0))⟩
  · have h1 : t.pair = 1 := by omega
    rw [if_pos h1] at hl
    have hl1 : 1 < t.pairs.length := by omega
    rw [if_neg (by omega), if_pos ⟨h1, hl1⟩]
    have hsz := szT_pair t 1 hl1
    refine ⟨by omega, fun _ => hsz, h.pair (getT_mem hl1)⟩

def SubOK (n : Nat) : Prop := ∀ (a b : Ty) (va vb : Value) (w : World), szT a + szT b ≤ n → okTy a → okTy b → TyV w va a → TyV w vb b →
    Calls Tryd.prog 21 #[va, vb] w fun e w' => e = .returned (.bool (subF n a b)) ∧ Below w.heap.size w w'

set_option maxRecDepth 100000 in
set_option maxHeartbeats 20000000 in
theorem sub_succ (n : Nat) (ih : SubOK n) : SubOK (n + 1) := by
  intro a b va vb w hsz hoa hob hva hvb
  have hha := head_of hoa
  have hhb := head_of hob
  have hca := @car_size a hoa
  have hcb := @car_size b hob
  have hda := @cdr_size a hoa
  have hdb := @cdr_size b hob
  have hfa : ∀ j, j < a.funs.length → szT (a.funs.getD j ty0) < szT a ∧ okTy (a.funs.getD j ty0) := fun j hj => ⟨szT_fun a j hj, hoa.fun (getT_mem hj)⟩
  have hfb : ∀ j, j < b.funs.length → szT (b.funs.getD j ty0) < szT b ∧ okTy (b.funs.getD j ty0) := fun j hj => ⟨szT_fun b j hj, hob.fun (getT_mem hj)⟩
  have hrec : subF (n + 1) a b = (b.all || (!a.all && flatSub a.flat b.flat &&
      (a.pair == 0 || (b.pair != 0 && subF n (carT a) (carT b) && (!(a.pair == 1 || b.pair == 1) || subF n (cdrT a) (cdrT b)))) &&
      (a.fn == 0 || b.fn == 2 || (b.fn != 0 && a.fn != 2 && a.funs.length == b.funs.length &&
        ((List.range (a.funs.length - 1)).all fun i => subF n (b.funs.getD i ty0) (a.funs.getD i ty0)) && subF n (a.funs.getD (a.funs.length - 1) ty0) (b.funs.getD (a.funs.length - 1) ty0))))) := rfl
  have HVA := Lib.hid hva
  have HVB := Lib.hid hvb
  obtain ⟨pa, pc, fa, fc, rfl, hap, haf⟩ := hva.form
  obtain ⟨qa, qc, ga, gc, rfl, hbp, hbf⟩ := hvb.form
  obtain ⟨xa, hxa⟩ : ∃ z, z = a.all := ⟨_, rfl⟩
  obtain ⟨xp, hxp⟩ : ∃ z, z = a.pair := ⟨_, rfl⟩
  obtain ⟨xn, hxn⟩ : ∃ z, z = a.fn := ⟨_, rfl⟩
  obtain ⟨ya, hya⟩ : ∃ z, z = b.all := ⟨_, rfl⟩
  obtain ⟨yp, hyp⟩ : ∃ z, z = b.pair := ⟨_, rfl⟩
  obtain ⟨yn, hyn⟩ : ∃ z, z = b.fn := ⟨_, rfl⟩
  obtain ⟨F, hF⟩ : ∃ F : Nat, a.flat = F := ⟨a.flat.toNat, by omega⟩
  obtain ⟨G, hG⟩ : ∃ G : Nat, b.flat = G := ⟨b.flat.toNat, by omega⟩
  obtain ⟨np, hnp⟩ : ∃ n, n = a.pairs.length := ⟨_, rfl⟩
  obtain ⟨nf, hnf⟩ : ∃ n, n = a.funs.length := ⟨_, rfl⟩
  obtain ⟨mp, hmp⟩ : ∃ n, n = b.pairs.length := ⟨_, rfl⟩
  obtain ⟨mf, hmf⟩ : ∃ n, n = b.funs.length := ⟨_, rfl⟩
  rw [hF, ← hxa, ← hxp, ← hxn, ← hnp, ← hnf] at hha HVA
  rw [hG, ← hya, ← hyp, ← hyn, ← hmp, ← hmf] at hhb HVB
  rw [hF, hG, ← hxa, ← hya, ← hxp, ← hyp, ← hxn, ← hyn, ← hnf, ← hmf] at hrec
  rw [← hxa, ← hxp] at hca hda
  rw [← hya, ← hyp] at hcb hdb
  rw [← hnf] at hfa haf
  rw [← hmf] at hfb hbf
  rw [← hnp] at hap
  rw [← hmp] at hbp
  rw [hF, hG, ← hxa, ← hya, ← hxp, ← hyp, ← hxn, ← hyn, ← hnp, ← hnf, ← hmp, ← hmf]
  obtain ⟨flatB, hflat⟩ : ∃ z, z = flatSub F G := ⟨_, rfl⟩
  obtain ⟨cx, hcx⟩ : ∃ z, z = carT a := ⟨_, rfl⟩
  obtain ⟨cy, hcy⟩ : ∃ z, z = carT b := ⟨_, rfl⟩
  obtain ⟨dx, hdx⟩ : ∃ z, z = cdrT a := ⟨_, rfl⟩
  obtain ⟨dy, hdy⟩ : ∃ z, z = cdrT b := ⟨_, rfl⟩
  rw [← hcx] at hca
  rw [← hcy] at hcb
  rw [← hdx] at hda
  rw [← hdy] at hdb
  rw [← hcx, ← hcy, ← hdx, ← hdy] at hrec
  obtain ⟨c1, hc1⟩ : ∃ z, z = subF n cx cy := ⟨_, rfl⟩
  obtain ⟨c2, hc2⟩ : ∃ z, z = subF n dx dy := ⟨_, rfl⟩
  rw [← hc1, ← hc2, ← hflat] at hrec
  obtain ⟨pB, hpB⟩ : ∃ z, z = (xp == 0 || (yp != 0 && c1 && (!(xp == 1 || yp == 1) || c2))) := ⟨_, rfl⟩
  obtain ⟨fB, hfB⟩ : ∃ z, z = (xn == 0 || yn == 2 || (yn != 0 && xn != 2 && nf == mf && ((List.range (nf - 1)).all fun i => subF n (b.funs.getD i ty0) (a.funs.getD i ty0)) && subF n (a.funs.getD (nf - 1) ty0) (b.funs.getD (nf - 1) ty0))) := ⟨_, rfl⟩
  rw [← hpB, ← hfB] at hrec
  obtain ⟨W, hW⟩ : ∃ W, W = (w.alloc (.cells #[.bool xa, .int .i64 F, .int .i64 xp, .slice pa np pc, .int .i64 xn, .slice fa nf fc] 24)).alloc (.cells #[.bool ya, .int .i64 G, .int .i64 yp, .slice qa mp qc, .int .i64 yn, .slice ga mf gc] 24) := ⟨_, rfl⟩
  obtain ⟨g, hg⟩ : ∃ g, g = w.heap.size := ⟨_, rfl⟩
  have HBX := Lib.hid (show BoxAt W g xa F xp (.slice pa np pc) xn (.slice fa nf fc) by rw [hW, hg]; exact (BoxAt.made _ _ _ _ _ _ _).keep ((Below.refl _ _).alloc (Nat.le_refl _) _))
  have HBY := Lib.hid (show BoxAt W (g + 1) ya G yp (.slice qa mp qc) yn (.slice ga mf gc) by rw [hW, hg]; have := BoxAt.made (w.alloc (.cells #[.bool xa, .int .i64 F, .int .i64 xp, .slice pa np pc, .int .i64 xn, .slice fa nf fc] 24)) ya G yp (.slice qa mp qc) yn (.slice ga mf gc); simpa using this)
  have HBW := Lib.hid (show Below w.heap.size w W by rw [hW]; exact ((Below.refl _ _).alloc (Nat.le_refl _) _).alloc (by simp) _)
  have HNX := Lib.hid (HVA.out.below HBW.out)
  have HNY := Lib.hid (HVB.out.below HBW.out)
  have HAF := Lib.hid (haf.under HBW.out)
  have HBF := Lib.hid (hbf.under HBW.out)
  have HW := Lib.hid hW
  have HG := Lib.hid hg
  have HI := Lib.hid ih
  have HR := Lib.hid hrec
  have HHA := Lib.hid hha
  have HHB := Lib.hid hhb
  have HCA := Lib.hid hca
  have HCB := Lib.hid hcb
  have HDA := Lib.hid hda
  have HDB := Lib.hid hdb
  have HFA := Lib.hid hfa
  have HFB := Lib.hid hfb
  have HSZ := Lib.hid hsz
  have HFL := Lib.hid hflat
  have HCX := Lib.hid hcx
  have HCY := Lib.hid hcy
  have HDX := Lib.hid hdx
  have HDY := Lib.hid hdy
  have HC1 := Lib.hid hc1
  have HC2 := Lib.hid hc2
  have HPB := Lib.hid hpB
  have HFB2 := Lib.hid hfB
  have HNF := Lib.hid hnf
  have HMF := Lib.hid hmf
  have hF1 : (F : Int) ≤ 63 := by omega
  have hF0 : (0 : Int) ≤ F := Int.natCast_nonneg _
  have hG1 : (G : Int) ≤ 63 := by omega
  have hG0 : (0 : Int) ≤ G := Int.natCast_nonneg _
  clear HVA HVB hap haf hbp hbf hnp hnf hmp hmf hxa hxp hxn hya hyp hyn hF hG hW hg ih hva hvb hrec hha hhb hca hcb hda hdb hfa hfb hsz hflat hcx hcy hdx hdy hc1 hc2 hpB hfB hoa hob
  cases ya with
  | true =>
    have hres : subF (n + 1) a b = true := by rw [HR.out]; rfl
    have HRES := Lib.hid hres
    clear hres
    go_enter Tryd.func21, Tryd.ntmps21
    go_wp2
    go_ret
    exact ⟨ret_bool (by rw [HRES.out]), ((Below.refl _ _).alloc (Nat.le_refl _) _).alloc (by simp) _⟩
  | false =>
  cases xa with
  | true =>
    have hres : subF (n + 1) a b = false := by rw [HR.out]; rfl
    have HRES := Lib.hid hres
    clear hres
    go_enter Tryd.func21, Tryd.ntmps21
    go_wp2
    go_ret
    exact ⟨ret_bool (by rw [HRES.out]), ((Below.refl _ _).alloc (Nat.le_refl _) _).alloc (by simp) _⟩
  | false =>
  go_enter Tryd.func21, Tryd.ntmps21
  go_wp2
  rw [← HG.out, ← HW.out]
  go_loopw [5] (fun i wr => ∃ k : Nat, k ≤ 6 ∧ (∃ p : Nat, i = .int .i64 p ∧ 0 < p ∧ p ≤ 64 ∧ Hid (p = 2 ^ k)) ∧ Hid (∀ j, j < k → okBit F G j) ∧ W = wr) (fun i _ => 64 - (intOf i).toNat)
  case atStart => exact ⟨0, by omega, ⟨1, rfl, by omega, by omega, Lib.hid rfl⟩, Lib.hid (fun j hj => absurd hj (Nat.not_lt_zero _)), rfl⟩
  case round =>
    obtain ⟨k, hk, ⟨p, rfl, hp0, hp1, HP⟩, HA, rfl⟩ := hrel
    have qa1 := HBX.out.c1
    have qa2 := HBX.out.c2
    have qa4 := HBX.out.c4
    have ta := HBX.out.lt
    have qb1 := HBY.out.c1
    have qb2 := HBY.out.c2
    have qb4 := HBY.out.c4
    have tb := HBY.out.lt
    by_cases hgo : p < 64
    · have hlt : (p : Int) < 64 := by omega
      have hk6 : k < 6 := by
        rcases Nat.lt_or_ge k 6 with h | h
        · exact h
        · have := HP.out; have h6 : k = 6 := by omega
          rw [h6] at this; omega
      have hp : (0 : Int) < p := by omega
      have hpne : ((p : Int) == 0) = false := beq_false_of_ne (by omega)
      obtain ⟨x, hx⟩ : ∃ x, x = F / p := ⟨_, rfl⟩
      obtain ⟨y, hy⟩ : ∃ y, y = G / p := ⟨_, rfl⟩
      have hxF : x ≤ F := by rw [hx]; exact Nat.div_le_self _ _
      have hyG : y ≤ G := by rw [hy]; exact Nat.div_le_self _ _
      have wx : wrap64 ((F : Int) / (p : Int)) = (x : Int) := by rw [show (F : Int) / (p : Int) = (x : Int) by rw [hx]; rfl]; exact wrap_in (by omega) (by omega)
      have wy : wrap64 ((G : Int) / (p : Int)) = (y : Int) := by rw [show (G : Int) / (p : Int) = (y : Int) by rw [hy]; rfl]; exact wrap_in (by omega) (by omega)
      have hstep : okBit F G k → ∀ j, j < k + 1 → okBit F G j := fun h j hj => by
        rcases Nat.lt_or_ge j k with h1 | h1
        · exact HA.out j h1
        · obtain rfl : j = k := by omega
          exact h
      have hbit : okBit F G k ↔ ¬ (x % 2 = 1 ∧ y % 2 = 0) := by unfold okBit; rw [← HP.out, hx, hy]
      have hnext : 2 * p = 2 ^ (k + 1) := by rw [HP.out, Nat.pow_succ, Nat.mul_comm]
      have HST := Lib.hid hstep
      have HBT := Lib.hid hbit
      have HNX2 := Lib.hid hnext
      have HK := Lib.hid hk6
      have HP1 := Lib.hid (show 0 < p ∧ p < 64 by omega)
      clear hx hy hxF hyG hstep hbit hnext hgo hk hp0 hp1 hk6
      by_cases hx1 : x % 2 = 1
      · have mx : (x : Int).tmod 2 = 1 := by rw [show (x : Int).tmod 2 = ((x % 2 : Nat) : Int) from rfl, hx1]; rfl
        by_cases hy1 : y % 2 = 0
        · have my : (y : Int).tmod 2 = 0 := by rw [show (y : Int).tmod 2 = ((y % 2 : Nat) : Int) from rfl, hy1]; rfl
          have hno : flatB = false := by
            cases h : flatB with
            | false => rfl
            | true => exact absurd ⟨hx1, hy1⟩ (HBT.out.1 ((flatSub_iff F G).1 (HFL.out.symm.trans h) k HK.out))
          have HFN := Lib.hid hno
          clear hx1 hy1 hno
          have hres : subF (n + 1) a b = false := by rw [HR.out]; rw [HFN.out]; rfl
          have HRES := Lib.hid hres
          clear hres
          go_wp2
          go_ret
          exact ⟨ret_bool (by rw [HRES.out]), HBW.out⟩
        · have my : (y : Int).tmod 2 = 1 := by rw [show (y : Int).tmod 2 = ((y % 2 : Nat) : Int) from rfl, show y % 2 = 1 by omega]; rfl
          have hok2 : ¬ (x % 2 = 1 ∧ y % 2 = 0) := fun h => hy1 h.2
          clear hx1 hy1
          have hok : okBit F G k := HBT.out.2 hok2
          have HOK := Lib.hid hok
          clear hok hok2
          go_wp2
          refine ⟨⟨k + 1, by have := HK.out; omega, ⟨2 * p, by go_num, by have := HP1.out; omega, ?_, HNX2⟩, Lib.hid (HST.out HOK.out), by trivial⟩, by have := HP1.out; simp [intOf]; omega⟩
          rw [HNX2.out]
          exact (Nat.pow_le_pow_right (by omega) (show k + 1 ≤ 6 by have := HK.out; omega) : 2 ^ (k + 1) ≤ 2 ^ 6)
      · have mx : (x : Int).tmod 2 = 0 := by rw [show (x : Int).tmod 2 = ((x % 2 : Nat) : Int) from rfl, show x % 2 = 0 by omega]; rfl
        have hok2 : ¬ (x % 2 = 1 ∧ y % 2 = 0) := fun h => hx1 h.1
        clear hx1
        have hok : okBit F G k := HBT.out.2 hok2
        have HOK := Lib.hid hok
        clear hok hok2
        go_wp2
        refine ⟨⟨k + 1, by have := HK.out; omega, ⟨2 * p, by go_num, by have := HP1.out; omega, ?_, HNX2⟩, Lib.hid (HST.out HOK.out), by trivial⟩, by have := HP1.out; simp [intOf]; omega⟩
        rw [HNX2.out]
        exact (Nat.pow_le_pow_right (by omega) (show k + 1 ≤ 6 by have := HK.out; omega) : 2 ^ (k + 1) ≤ 2 ^ 6)
    · have hlt : ¬ (p : Int) < 64 := by omega
      have hk6 : k = 6 := by
        rcases Nat.lt_or_ge k 6 with h | h
        · have h1 := HP.out
          have h2 : 2 ^ k ≤ 2 ^ 5 := Nat.pow_le_pow_right (by omega) (by omega)
          omega
        · omega
      have hyes : flatB = true := by rw [HFL.out, flatSub_iff]; rw [← hk6]; exact HA.out
      have HFN := Lib.hid hyes
      clear hyes hk6 HA HP hgo hk hp0 hp1
      by_cases hx0 : xp = 0
      · subst hx0
        as_aux_lemma =>
          clear qa1 qa2 qa4 ta qb1 qb2 qb4 tb
          have qa2 := HBX.out.c2
          have qa4 := HBX.out.c4
          have qa5 := HBX.out.c5
          have ta := HBX.out.lt
          have qb2 := HBY.out.c2
          have qb4 := HBY.out.c4
          have qb5 := HBY.out.c5
          have tb := HBY.out.lt
          have hpb : pB = true := by rw [HPB.out]; rfl
          have HPT := Lib.hid hpb
          clear hpb
          by_cases k0 : xn = 0
          · subst k0
            have hres : subF (n + 1) a b = true := by rw [HR.out]; rw [HFN.out, HPT.out, HFB2.out]; rfl
            have HRES := Lib.hid hres
            clear hres
            go_wp2
            go_ret
            exact ⟨ret_bool (by rw [HRES.out]), HBW.out⟩
          have l0 : (xn == 0) = false := beq_false_of_ne k0
          by_cases k1 : yn = 2
          · subst k1
            clear k0
            have hres : subF (n + 1) a b = true := by rw [HR.out]; rw [HFN.out, HPT.out, HFB2.out]; simp
            have HRES := Lib.hid hres
            clear hres
            go_wp2
            go_ret
            exact ⟨ret_bool (by rw [HRES.out]), HBW.out⟩
          have l1 : (yn == 2) = false := beq_false_of_ne k1
          by_cases k2 : yn = 0
          · subst k2
            have hfb : fB = false := by rw [HFB2.out, l0]; simp
            have HFF := Lib.hid hfb
            clear k0 k1 hfb
            have hres : subF (n + 1) a b = false := by rw [HR.out]; rw [HFN.out, HPT.out, HFF.out]; rfl
            have HRES := Lib.hid hres
            clear hres
            go_wp2
            go_ret
            exact ⟨ret_bool (by rw [HRES.out]), HBW.out⟩
          have l2 : (yn == 0) = false := beq_false_of_ne k2
          by_cases k3 : xn = 2
          · subst k3
            have hfb : fB = false := by rw [HFB2.out, l1]; simp
            have HFF := Lib.hid hfb
            clear k0 k1 k2 hfb
            have hres : subF (n + 1) a b = false := by rw [HR.out]; rw [HFN.out, HPT.out, HFF.out]; rfl
            have HRES := Lib.hid hres
            clear hres
            go_wp2
            go_ret
            exact ⟨ret_bool (by rw [HRES.out]), HBW.out⟩
          have l3 : (xn == 2) = false := beq_false_of_ne k3
          by_cases k4 : nf = mf
          case neg =>
            have e4 : ((nf : Int) != (mf : Int)) = true := by rw [bne_iff_ne]; omega
            have hfb : fB = false := by rw [HFB2.out, l0, l1, show (nf == mf) = false from beq_false_of_ne k4]; simp
            have HFF := Lib.hid hfb
            clear k0 k1 k2 k3 k4 hfb
            have hres : subF (n + 1) a b = false := by rw [HR.out]; rw [HFN.out, HPT.out, HFF.out]; rfl
            have HRES := Lib.hid hres
            clear hres
            go_wp2
            go_ret
            exact ⟨ret_bool (by rw [HRES.out]), HBW.out⟩
          subst k4
          have hx1 : xn = 1 := by have := HHA.out; omega
          have hnl := HHA.out.2.2.2.2.2.2.2.2.2 hx1
          obtain ⟨m, hm⟩ : ∃ m, nf = m + 1 := ⟨nf - 1, by omega⟩
          have hmi : ((nf : Nat) : Int) - 1 = m := by omega
          have hmf : (m : Int) < nf := by omega
          have hm9 : (m : Int) ≤ 8 := by omega
          have hfb : fB = (((List.range m).all fun i => subF n (b.funs.getD i ty0) (a.funs.getD i ty0)) && subF n (a.funs.getD m ty0) (b.funs.getD m ty0)) := by rw [HFB2.out, l0, l1, show (yn != 0) = true by rw [bne, l2]; rfl, show (xn != 2) = true by rw [bne, l3]; rfl, hm]; simp
          have HFF := Lib.hid hfb
          have HMN := Lib.hid hm
          have HM9 := Lib.hid (show m ≤ 8 by omega)
          clear k0 k1 k2 k3 hx1 hnl hm hfb
          go_wp2
          go_loopw [15] (fun i wr => ∃ k : Nat, k ≤ m ∧ i = .int .i64 k ∧ Hid (((List.range k).all fun i => subF n (b.funs.getD i ty0) (a.funs.getD i ty0)) = true) ∧ Hid (Below W.heap.size W wr)) (fun i _ => m - (intOf i).toNat)
          case atStart => exact ⟨0, Nat.zero_le _, rfl, Lib.hid rfl, Lib.hid (Below.refl _ _)⟩
          case round =>
            obtain ⟨j, hj, rfl, HAL, HBL⟩ := hrel
            clear qa2 qa4 qa5 ta qb2 qb4 qb5 tb
            have HVa_1 := Lib.hid (HBX.out.keep HBL.out)
            have HNa_1 := Lib.hid (HNX.out.below HBL.out)
            have HVb_1 := Lib.hid (HBY.out.keep HBL.out)
            have HNb_1 := Lib.hid (HNY.out.below HBL.out)
            have HSaf_1 := Lib.hid (HAF.out.under HBL.out)
            have HSbf_1 := Lib.hid (HBF.out.under HBL.out)
            have HBW_1 := Lib.hid (HBW.out.trans (HBL.out.mono HBW.out.size))
            have qa5 := HVa_1.out.c5
            have ta := HVa_1.out.lt
            have qb5 := HVb_1.out.c5
            have tb := HVb_1.out.lt
            by_cases hgo : j < m
            · have hlt : (j : Int) < m := by omega
              have hjf : (j : Int) < nf := by omega
              obtain ⟨d, hd⟩ : ∃ d, a.funs.getD j ty0 = d := ⟨_, rfl⟩
              obtain ⟨e, he⟩ : ∃ d, b.funs.getD j ty0 = d := ⟨_, rfl⟩
              obtain ⟨b1, o1, p1, c1', p2, c2', rfl, hb1, e0, e1, e2, e3, e4, e5, hv⟩ := HSaf_1.out.elem (show j < _ by rw [← HNF.out]; have := HMN.out; omega) hd
              obtain ⟨b2, o2, r1, d1', r2, d2', rfl, hb2, f0, f1, f2, f3, f4, f5, hu⟩ := HSbf_1.out.elem (show j < _ by rw [← HMF.out]; have := HMN.out; omega) he
              have hsa := HFA.out j (by have := HMN.out; omega)
              have hsb := HFB.out j (by have := HMN.out; omega)
              rw [hd] at hsa
              rw [he] at hsb
              obtain ⟨q1, hq1⟩ : ∃ q, q = d.pairs.length := ⟨_, rfl⟩
              obtain ⟨q2, hq2⟩ : ∃ q, q = d.funs.length := ⟨_, rfl⟩
              obtain ⟨s1, hs1⟩ : ∃ q, q = e.pairs.length := ⟨_, rfl⟩
              obtain ⟨s2, hs2⟩ : ∃ q, q = e.funs.length := ⟨_, rfl⟩
              rw [← hq1] at e3 hv
              rw [← hq2] at e5 hv
              rw [← hs1] at f3 hu
              rw [← hs2] at f5 hu
              have C := HI.out e d _ _ wr.drew (by have := HSZ.out; omega) hsb.2 hsa.2 (hu.below (Below.refl _ _).drew) (hv.below (Below.refl _ _).drew)
              obtain ⟨z, hz⟩ : ∃ z, z = subF n e d := ⟨_, rfl⟩
              rw [← hz] at C
              have hno : z = false → ((List.range m).all fun i => subF n (b.funs.getD i ty0) (a.funs.getD i ty0)) = false := fun h => by
                rw [List.all_eq_false]
                exact ⟨j, List.mem_range.2 hgo, by rw [hd, he, ← hz, h]; simp⟩
              have hyes : z = true → ((List.range (j + 1)).all fun i => subF n (b.funs.getD i ty0) (a.funs.getD i ty0)) = true := fun h => by
                rw [List.range_succ, List.all_append, HAL.out, Bool.true_and]
                simp only [List.all_cons, List.all_nil, Bool.and_true]
                rw [hd, he, ← hz, h]
              have HC3 := Lib.hid C
              have HNO := Lib.hid hno
              have HYES := Lib.hid hyes
              have HJ := Lib.hid hgo
              clear hd he hv hu C hz hq1 hq2 hs1 hs2 hsa hsb hgo hj hno hyes HAL
              go_wp2_with fail
              go_still_tail 10, (by kernel_rfl)
              change wpList _ _ _ _ _ wr.drew
              go_wp2_with fail
              refine HC3.out.mono ?_
              rintro e w5 ⟨rfl, hbw⟩
              have HB5 := Lib.hid (HBL.out.trans ((Below.refl _ _).drew.trans (hbw.mono HBL.out.size)))
              have HB6 := Lib.hid (HBW_1.out.trans ((Below.refl _ _).drew.trans (hbw.mono HBW_1.out.size)))
              clear hbw
              cases z with
              | false =>
                have hff := HNO.out rfl
                have hres : subF (n + 1) a b = false := by rw [HR.out, HFN.out, HPT.out, HFF.out, hff]; rfl
                have HRES := Lib.hid hres
                clear hres hff
                go_wp2
                go_ret
                exact ⟨ret_bool (by rw [HRES.out]), HB6.out⟩
              | true =>
                go_wp2
                exact ⟨⟨j + 1, by have := HJ.out; omega, by go_num, Lib.hid (HYES.out (by trivial)), HB5⟩, by have := HJ.out; simp [intOf]; omega⟩
            · have hlt : ¬ (j : Int) < m := by omega
              have hjm : j = m := by omega
              subst hjm
              obtain ⟨d, hd⟩ : ∃ d, a.funs.getD j ty0 = d := ⟨_, rfl⟩
              obtain ⟨e, he⟩ : ∃ d, b.funs.getD j ty0 = d := ⟨_, rfl⟩
              obtain ⟨b1, o1, p1, c1', p2, c2', rfl, hb1, e0, e1, e2, e3, e4, e5, hv⟩ := HSaf_1.out.elem (show j < _ by rw [← HNF.out]; have := HMN.out; omega) hd
              obtain ⟨b2, o2, r1, d1', r2, d2', rfl, hb2, f0, f1, f2, f3, f4, f5, hu⟩ := HSbf_1.out.elem (show j < _ by rw [← HMF.out]; have := HMN.out; omega) he
              have hsa := HFA.out j (by have := HMN.out; omega)
              have hsb := HFB.out j (by have := HMN.out; omega)
              rw [hd] at hsa
              rw [he] at hsb
              obtain ⟨q1, hq1⟩ : ∃ q, q = d.pairs.length := ⟨_, rfl⟩
              obtain ⟨q2, hq2⟩ : ∃ q, q = d.funs.length := ⟨_, rfl⟩
              obtain ⟨s1, hs1⟩ : ∃ q, q = e.pairs.length := ⟨_, rfl⟩
              obtain ⟨s2, hs2⟩ : ∃ q, q = e.funs.length := ⟨_, rfl⟩
              rw [← hq1] at e3 hv
              rw [← hq2] at e5 hv
              rw [← hs1] at f3 hu
              rw [← hs2] at f5 hu
              have C := HI.out d e _ _ wr.drew (by have := HSZ.out; omega) hsa.2 hsb.2 (hv.below (Below.refl _ _).drew) (hu.below (Below.refl _ _).drew)
              obtain ⟨z, hz⟩ : ∃ z, z = subF n d e := ⟨_, rfl⟩
              rw [← hz] at C
              have hres : subF (n + 1) a b = z := by rw [HR.out, HFN.out, HPT.out, HFF.out, HAL.out, hd, he, ← hz]; cases z <;> rfl
              have HRES := Lib.hid hres
              have HC3 := Lib.hid C
              clear hres hd he hv hu C hz hq1 hq2 hs1 hs2 hsa hsb hgo hj HAL
              go_wp2_with fail
              go_still_tail 10, (by kernel_rfl)
              change wpList _ _ _ _ _ wr.drew
              go_wp2_with fail
              refine HC3.out.mono ?_
              rintro e w5 ⟨rfl, hbw⟩
              have HB6 := Lib.hid (HBW_1.out.trans ((Below.refl _ _).drew.trans (hbw.mono HBW_1.out.size)))
              clear hbw
              go_wp2
              go_ret
              exact ⟨ret_bool (by rw [HRES.out]), HB6.out⟩
      have dx0 : (xp == 0) = false := beq_false_of_ne hx0
      have ex0 : (xp != 0) = true := bne_iff_ne.2 hx0
      by_cases hy0 : yp = 0
      · subst hy0
        have hpb : pB = false := by rw [HPB.out, dx0]; rfl
        have HPF := Lib.hid hpb
        clear hpb hx0
        have hres : subF (n + 1) a b = false := by rw [HR.out]; rw [HFN.out, HPF.out]; rfl
        have HRES := Lib.hid hres
        clear hres
        go_wp2
        go_ret
        exact ⟨ret_bool (by rw [HRES.out]), HBW.out⟩
      have dy0 : (yp == 0) = false := beq_false_of_ne hy0
      have hca := HCA.out (by trivial) hx0
      have hcb := HCB.out (by trivial) hy0
      have hda := HDA.out (by trivial) hx0
      have hdb := HDB.out (by trivial) hy0
      have HCA2 := Lib.hid hca
      have HCB2 := Lib.hid hcb
      have HDA2 := Lib.hid hda
      have HDB2 := Lib.hid hdb
      have H12 := Lib.hid (show (xp = 1 ∨ xp = 2) ∧ (yp = 1 ∨ yp = 2) by have := HHA.out; have := HHB.out; omega)
      clear hca hcb hda hdb hx0 hy0
      clear qa1 qa2 qa4 ta qb1 qb2 qb4 tb
      have qa0 := HBX.out.c0
      have qa1 := HBX.out.c1
      have qa2 := HBX.out.c2
      have qa3 := HBX.out.c3
      have qa4 := HBX.out.c4
      have qa5 := HBX.out.c5
      have ta := HBX.out.lt
      have qb0 := HBY.out.c0
      have qb1 := HBY.out.c1
      have qb2 := HBY.out.c2
      have qb3 := HBY.out.c3
      have qb4 := HBY.out.c4
      have qb5 := HBY.out.c5
      have tb := HBY.out.lt
      go_wp2_with fail
      clear qa0 qa1 qa2 qa3 qa4 qa5 ta qb0 qb1 qb2 qb3 qb4 qb5 tb
      refine (car_any (fun _ => False) a _ _ (fun _ h => h.elim) HNX.out.n).mono ?_
      rintro e w301 ⟨⟨v, rfl, hv⟩, hb⟩
      replace hv := hv.v
      obtain ⟨rax, rbx, rcx, rdx, rfl, _, _⟩ := hv.form
      have qb0 := (HBY.out.keep hb).c0
      have qb1 := (HBY.out.keep hb).c1
      have qb2 := (HBY.out.keep hb).c2
      have qb3 := (HBY.out.keep hb).c3
      have qb4 := (HBY.out.keep hb).c4
      have qb5 := (HBY.out.keep hb).c5
      have tb := (HBY.out.keep hb).lt
      obtain ⟨W301, hW301⟩ : ∃ W, W = w301.alloc (.cells #[.bool (carT a).all, .int .i64 (carT a).flat, .int .i64 (carT a).pair, .slice rax (carT a).pairs.length rbx, .int .i64 (carT a).fn, .slice rcx (carT a).funs.length rdx] 24) := ⟨_, rfl⟩
      obtain ⟨gx, hgx⟩ : ∃ g, g = w301.heap.size := ⟨_, rfl⟩
      have HBW301 := Lib.hid (show Below W.heap.size W W301 by rw [hW301]; exact hb.alloc hb.size _)
      have HVn := Lib.hid (show BoxAt W301 gx _ _ _ _ _ _ by rw [hW301, hgx]; exact BoxAt.made w301 (carT a).all (carT a).flat (carT a).pair (.slice rax (carT a).pairs.length rbx) (carT a).fn (.slice rcx (carT a).funs.length rdx))
      have HNn := Lib.hid (show TyV W301 _ (carT a) by rw [hW301]; exact hv.below ((Below.refl _ _).alloc (Nat.le_refl _) _))
      have HW301 := Lib.hid hW301
      have HGx := Lib.hid hgx
      clear hv hb hW301 hgx
      have HVa_1 := Lib.hid (HBX.out.keep HBW301.out)
      have HNa_1 := Lib.hid (HNX.out.below HBW301.out)
      have HVb_1 := Lib.hid (HBY.out.keep HBW301.out)
      have HNb_1 := Lib.hid (HNY.out.below HBW301.out)
      have HSaf_1 := Lib.hid (HAF.out.under HBW301.out)
      have HSbf_1 := Lib.hid (HBF.out.under HBW301.out)
      have HBW_1 := Lib.hid (HBW.out.trans (HBW301.out.mono HBW.out.size))
      have HVx_1 := HVn
      have HNx_1 := HNn
      clear HVn HNn HBW301
      go_wp2_with fail
      rw [← HGx.out, ← HW301.out]
      clear qb0 qb1 qb2 qb3 qb4 qb5 tb
      refine (car_any (fun _ => False) b _ _ (fun _ h => h.elim) HNb_1.out.n).mono ?_
      rintro e w302 ⟨⟨v, rfl, hv⟩, hb⟩
      replace hv := hv.v
      obtain ⟨ray, rby, rcy, rdy, rfl, _, _⟩ := hv.form
      have qx0 := (HVx_1.out.keep hb).c0
      have qx1 := (HVx_1.out.keep hb).c1
      have qx2 := (HVx_1.out.keep hb).c2
      have qx3 := (HVx_1.out.keep hb).c3
      have qx4 := (HVx_1.out.keep hb).c4
      have qx5 := (HVx_1.out.keep hb).c5
      have tx := (HVx_1.out.keep hb).lt
      obtain ⟨W302, hW302⟩ : ∃ W, W = w302.alloc (.cells #[.bool (carT b).all, .int .i64 (carT b).flat, .int .i64 (carT b).pair, .slice ray (carT b).pairs.length rby, .int .i64 (carT b).fn, .slice rcy (carT b).funs.length rdy] 24) := ⟨_, rfl⟩
      obtain ⟨gy, hgy⟩ : ∃ g, g = w302.heap.size := ⟨_, rfl⟩
      have HBW302 := Lib.hid (show Below W301.heap.size W301 W302 by rw [hW302]; exact hb.alloc hb.size _)
      have HVn := Lib.hid (show BoxAt W302 gy _ _ _ _ _ _ by rw [hW302, hgy]; exact BoxAt.made w302 (carT b).all (carT b).flat (carT b).pair (.slice ray (carT b).pairs.length rby) (carT b).fn (.slice rcy (carT b).funs.length rdy))
      have HNn := Lib.hid (show TyV W302 _ (carT b) by rw [hW302]; exact hv.below ((Below.refl _ _).alloc (Nat.le_refl _) _))
      have HW302 := Lib.hid hW302
      have HGy := Lib.hid hgy
      clear hv hb hW302 hgy
      have HVa_2 := Lib.hid (HVa_1.out.keep HBW302.out)
      have HNa_2 := Lib.hid (HNa_1.out.below HBW302.out)
      have HVb_2 := Lib.hid (HVb_1.out.keep HBW302.out)
      have HNb_2 := Lib.hid (HNb_1.out.below HBW302.out)
      have HVx_2 := Lib.hid (HVx_1.out.keep HBW302.out)
      have HNx_2 := Lib.hid (HNx_1.out.below HBW302.out)
      have HSaf_2 := Lib.hid (HSaf_1.out.under HBW302.out)
      have HSbf_2 := Lib.hid (HSbf_1.out.under HBW302.out)
      have HBW_2 := Lib.hid (HBW_1.out.trans (HBW302.out.mono HBW_1.out.size))
      have HVy_2 := HVn
      have HNy_2 := HNn
      clear HVn HNn HBW302
      have hcc := HI.out (carT a) (carT b) _ _ W302 (by have := HSZ.out; have := HCA2.out.1; have := HCB2.out.1; rw [HCX.out] at *; rw [HCY.out] at *; omega) (by rw [← HCX.out]; exact HCA2.out.2) (by rw [← HCY.out]; exact HCB2.out.2) HNx_2.out HNy_2.out
      rw [← HCX.out, ← HCY.out, ← HC1.out] at hcc
      have HCC := Lib.hid hcc
      clear hcc
      go_wp2_with fail
      rw [← HGy.out, ← HW302.out]
      clear qx0 qx1 qx2 qx3 qx4 qx5 tx
      rw [← HCX.out, ← HCY.out]
      refine HCC.out.mono ?_
      rintro e w4 ⟨rfl, hb4⟩
      have HB4 := Lib.hid hb4
      clear hb4 HCC
      have HVa_3 := Lib.hid (HVa_2.out.keep HB4.out)
      have HNa_3 := Lib.hid (HNa_2.out.below HB4.out)
      have HVb_3 := Lib.hid (HVb_2.out.keep HB4.out)
      have HNb_3 := Lib.hid (HNb_2.out.below HB4.out)
      have HSaf_3 := Lib.hid (HSaf_2.out.under HB4.out)
      have HSbf_3 := Lib.hid (HSbf_2.out.under HB4.out)
      have HBW_3 := Lib.hid (HBW_2.out.trans (HB4.out.mono HBW_2.out.size))
      have qa0 := HVa_3.out.c0
      have qa1 := HVa_3.out.c1
      have qa2 := HVa_3.out.c2
      have qa3 := HVa_3.out.c3
      have qa4 := HVa_3.out.c4
      have qa5 := HVa_3.out.c5
      have ta := HVa_3.out.lt
      have qb0 := HVb_3.out.c0
      have qb1 := HVb_3.out.c1
      have qb2 := HVb_3.out.c2
      have qb3 := HVb_3.out.c3
      have qb4 := HVb_3.out.c4
      have qb5 := HVb_3.out.c5
      have tb := HVb_3.out.lt
      cases c1 with
      | false =>
        have hpb : pB = false := by rw [HPB.out, dx0]; simp
        have HPF := Lib.hid hpb
        clear hpb
        have hres : subF (n + 1) a b = false := by rw [HR.out]; rw [HFN.out, HPF.out]; rfl
        have HRES := Lib.hid hres
        clear hres
        go_wp2
        go_ret
        exact ⟨ret_bool (by rw [HRES.out]), HBW_3.out⟩
      | true =>
      by_cases h1 : xp = 1
      · have HCP : Hid (szT dx < szT a ∨ szT dy < szT b) := Lib.hid (Or.inl (HDA2.out.2.1 h1))
        subst h1
        as_aux_lemma =>
          go_wp2_with fail
          clear qa0 qa1 qa2 qa3 qa4 qa5 ta qb0 qb1 qb2 qb3 qb4 qb5 tb
          refine (cdr_any (fun _ => False) a _ _ (fun _ h => h.elim) HNa_3.out.n).mono ?_
          rintro e w304 ⟨⟨v, rfl, hv⟩, hb⟩
          replace hv := hv.v
          obtain ⟨rax, rbx, rcx, rdx, rfl, _, _⟩ := hv.form
          have qb0 := (HVb_3.out.keep hb).c0
          have qb1 := (HVb_3.out.keep hb).c1
          have qb2 := (HVb_3.out.keep hb).c2
          have qb3 := (HVb_3.out.keep hb).c3
          have qb4 := (HVb_3.out.keep hb).c4
          have qb5 := (HVb_3.out.keep hb).c5
          have tb := (HVb_3.out.keep hb).lt
          obtain ⟨W304, hW304⟩ : ∃ W, W = w304.alloc (.cells #[.bool (cdrT a).all, .int .i64 (cdrT a).flat, .int .i64 (cdrT a).pair, .slice rax (cdrT a).pairs.length rbx, .int .i64 (cdrT a).fn, .slice rcx (cdrT a).funs.length rdx] 24) := ⟨_, rfl⟩
          obtain ⟨gx, hgx⟩ : ∃ g, g = w304.heap.size := ⟨_, rfl⟩
          have HBW304 := Lib.hid (show Below w4.heap.size w4 W304 by rw [hW304]; exact hb.alloc hb.size _)
          have HVn := Lib.hid (show BoxAt W304 gx _ _ _ _ _ _ by rw [hW304, hgx]; exact BoxAt.made w304 (cdrT a).all (cdrT a).flat (cdrT a).pair (.slice rax (cdrT a).pairs.length rbx) (cdrT a).fn (.slice rcx (cdrT a).funs.length rdx))
          have HNn := Lib.hid (show TyV W304 _ (cdrT a) by rw [hW304]; exact hv.below ((Below.refl _ _).alloc (Nat.le_refl _) _))
          have HW304 := Lib.hid hW304
          have HGx := Lib.hid hgx
          clear hv hb hW304 hgx
          have HVa_4 := Lib.hid (HVa_3.out.keep HBW304.out)
          have HNa_4 := Lib.hid (HNa_3.out.below HBW304.out)
          have HVb_4 := Lib.hid (HVb_3.out.keep HBW304.out)
          have HNb_4 := Lib.hid (HNb_3.out.below HBW304.out)
          have HSaf_4 := Lib.hid (HSaf_3.out.under HBW304.out)
          have HSbf_4 := Lib.hid (HSbf_3.out.under HBW304.out)
          have HBW_4 := Lib.hid (HBW_3.out.trans (HBW304.out.mono HBW_3.out.size))
          have HVx_4 := HVn
          have HNx_4 := HNn
          clear HVn HNn HBW304
          go_wp2_with fail
          rw [← HGx.out, ← HW304.out]
          clear qb0 qb1 qb2 qb3 qb4 qb5 tb
          refine (cdr_any (fun _ => False) b _ _ (fun _ h => h.elim) HNb_4.out.n).mono ?_
          rintro e w305 ⟨⟨v, rfl, hv⟩, hb⟩
          replace hv := hv.v
          obtain ⟨ray, rby, rcy, rdy, rfl, _, _⟩ := hv.form
          have qx0 := (HVx_4.out.keep hb).c0
          have qx1 := (HVx_4.out.keep hb).c1
          have qx2 := (HVx_4.out.keep hb).c2
          have qx3 := (HVx_4.out.keep hb).c3
          have qx4 := (HVx_4.out.keep hb).c4
          have qx5 := (HVx_4.out.keep hb).c5
          have tx := (HVx_4.out.keep hb).lt
          obtain ⟨W305, hW305⟩ : ∃ W, W = w305.alloc (.cells #[.bool (cdrT b).all, .int .i64 (cdrT b).flat, .int .i64 (cdrT b).pair, .slice ray (cdrT b).pairs.length rby, .int .i64 (cdrT b).fn, .slice rcy (cdrT b).funs.length rdy] 24) := ⟨_, rfl⟩
          obtain ⟨gy, hgy⟩ : ∃ g, g = w305.heap.size := ⟨_, rfl⟩
          have HBW305 := Lib.hid (show Below W304.heap.size W304 W305 by rw [hW305]; exact hb.alloc hb.size _)
          have HVn := Lib.hid (show BoxAt W305 gy _ _ _ _ _ _ by rw [hW305, hgy]; exact BoxAt.made w305 (cdrT b).all (cdrT b).flat (cdrT b).pair (.slice ray (cdrT b).pairs.length rby) (cdrT b).fn (.slice rcy (cdrT b).funs.length rdy))
          have HNn := Lib.hid (show TyV W305 _ (cdrT b) by rw [hW305]; exact hv.below ((Below.refl _ _).alloc (Nat.le_refl _) _))
          have HW305 := Lib.hid hW305
          have HGy := Lib.hid hgy
          clear hv hb hW305 hgy
          have HVa_5 := Lib.hid (HVa_4.out.keep HBW305.out)
          have HNa_5 := Lib.hid (HNa_4.out.below HBW305.out)
          have HVb_5 := Lib.hid (HVb_4.out.keep HBW305.out)
          have HNb_5 := Lib.hid (HNb_4.out.below HBW305.out)
          have HVx_5 := Lib.hid (HVx_4.out.keep HBW305.out)
          have HNx_5 := Lib.hid (HNx_4.out.below HBW305.out)
          have HSaf_5 := Lib.hid (HSaf_4.out.under HBW305.out)
          have HSbf_5 := Lib.hid (HSbf_4.out.under HBW305.out)
          have HBW_5 := Lib.hid (HBW_4.out.trans (HBW305.out.mono HBW_4.out.size))
          have HVy_5 := HVn
          have HNy_5 := HNn
          clear HVn HNn HBW305
          have hcc := HI.out (cdrT a) (cdrT b) _ _ W305 (by have := HSZ.out; have := HDA2.out.1; have := HDB2.out.1; have := HCP.out; rw [HDX.out] at *; rw [HDY.out] at *; omega) (by rw [← HDX.out]; exact HDA2.out.2.2) (by rw [← HDY.out]; exact HDB2.out.2.2) HNx_5.out HNy_5.out
          rw [← HDX.out, ← HDY.out, ← HC2.out] at hcc
          have HCC := Lib.hid hcc
          clear hcc
          go_wp2_with fail
          rw [← HGy.out, ← HW305.out]
          clear qx0 qx1 qx2 qx3 qx4 qx5 tx
          rw [← HDX.out, ← HDY.out]
          refine HCC.out.mono ?_
          rintro e w6 ⟨rfl, hb4⟩
          have HB4 := Lib.hid hb4
          clear hb4 HCC
          have HVa_6 := Lib.hid (HVa_5.out.keep HB4.out)
          have HNa_6 := Lib.hid (HNa_5.out.below HB4.out)
          have HVb_6 := Lib.hid (HVb_5.out.keep HB4.out)
          have HNb_6 := Lib.hid (HNb_5.out.below HB4.out)
          have HSaf_6 := Lib.hid (HSaf_5.out.under HB4.out)
          have HSbf_6 := Lib.hid (HSbf_5.out.under HB4.out)
          have HBW_6 := Lib.hid (HBW_5.out.trans (HB4.out.mono HBW_5.out.size))
          have qa0 := HVa_6.out.c0
          have qa1 := HVa_6.out.c1
          have qa2 := HVa_6.out.c2
          have qa3 := HVa_6.out.c3
          have qa4 := HVa_6.out.c4
          have qa5 := HVa_6.out.c5
          have ta := HVa_6.out.lt
          have qb0 := HVb_6.out.c0
          have qb1 := HVb_6.out.c1
          have qb2 := HVb_6.out.c2
          have qb3 := HVb_6.out.c3
          have qb4 := HVb_6.out.c4
          have qb5 := HVb_6.out.c5
          have tb := HVb_6.out.lt
          cases c2 with
          | false =>
            have hpb : pB = false := by rw [HPB.out, dx0]; simp [bne]
            have HPF := Lib.hid hpb
            clear hpb
            have hres : subF (n + 1) a b = false := by rw [HR.out]; rw [HFN.out, HPF.out]; rfl
            have HRES := Lib.hid hres
            clear hres
            go_wp2
            go_ret
            exact ⟨ret_bool (by rw [HRES.out]), HBW_6.out⟩
          | true =>
            clear qa0 qa1 qa2 qa3 qa4 qa5 ta qb0 qb1 qb2 qb3 qb4 qb5 tb
            have qa2 := HVa_6.out.c2
            have qa4 := HVa_6.out.c4
            have qa5 := HVa_6.out.c5
            have ta := HVa_6.out.lt
            have qb2 := HVb_6.out.c2
            have qb4 := HVb_6.out.c4
            have qb5 := HVb_6.out.c5
            have tb := HVb_6.out.lt
            have hpb : pB = true := by rw [HPB.out]; simp [dy0, bne]
            have HPT := Lib.hid hpb
            clear hpb
            by_cases k0 : xn = 0
            · subst k0
              have hres : subF (n + 1) a b = true := by rw [HR.out]; rw [HFN.out, HPT.out, HFB2.out]; rfl
              have HRES := Lib.hid hres
              clear hres
              go_wp2
              go_ret
              exact ⟨ret_bool (by rw [HRES.out]), HBW_6.out⟩
            have l0 : (xn == 0) = false := beq_false_of_ne k0
            by_cases k1 : yn = 2
            · subst k1
              clear k0
              have hres : subF (n + 1) a b = true := by rw [HR.out]; rw [HFN.out, HPT.out, HFB2.out]; simp
              have HRES := Lib.hid hres
              clear hres
              go_wp2
              go_ret
              exact ⟨ret_bool (by rw [HRES.out]), HBW_6.out⟩
            have l1 : (yn == 2) = false := beq_false_of_ne k1
            by_cases k2 : yn = 0
            · subst k2
              have hfb : fB = false := by rw [HFB2.out, l0]; simp
              have HFF := Lib.hid hfb
              clear k0 k1 hfb
              have hres : subF (n + 1) a b = false := by rw [HR.out]; rw [HFN.out, HPT.out, HFF.out]; rfl
              have HRES := Lib.hid hres
              clear hres
              go_wp2
              go_ret
              exact ⟨ret_bool (by rw [HRES.out]), HBW_6.out⟩
            have l2 : (yn == 0) = false := beq_false_of_ne k2
            by_cases k3 : xn = 2
            · subst k3
              have hfb : fB = false := by rw [HFB2.out, l1]; simp
              have HFF := Lib.hid hfb
              clear k0 k1 k2 hfb
              have hres : subF (n + 1) a b = false := by rw [HR.out]; rw [HFN.out, HPT.out, HFF.out]; rfl
              have HRES := Lib.hid hres
              clear hres
              go_wp2
              go_ret
              exact ⟨ret_bool (by rw [HRES.out]), HBW_6.out⟩
            have l3 : (xn == 2) = false := beq_false_of_ne k3
            by_cases k4 : nf = mf
            case neg =>
              have e4 : ((nf : Int) != (mf : Int)) = true := by rw [bne_iff_ne]; omega
              have hfb : fB = false := by rw [HFB2.out, l0, l1, show (nf == mf) = false from beq_false_of_ne k4]; simp
              have HFF := Lib.hid hfb
              clear k0 k1 k2 k3 k4 hfb
              have hres : subF (n + 1) a b = false := by rw [HR.out]; rw [HFN.out, HPT.out, HFF.out]; rfl
              have HRES := Lib.hid hres
              clear hres
              go_wp2
              go_ret
              exact ⟨ret_bool (by rw [HRES.out]), HBW_6.out⟩
            subst k4
            have hx1 : xn = 1 := by have := HHA.out; omega
            have hnl := HHA.out.2.2.2.2.2.2.2.2.2 hx1
            obtain ⟨m, hm⟩ : ∃ m, nf = m + 1 := ⟨nf - 1, by omega⟩
            have hmi : ((nf : Nat) : Int) - 1 = m := by omega
            have hmf : (m : Int) < nf := by omega
            have hm9 : (m : Int) ≤ 8 := by omega
            have hfb : fB = (((List.range m).all fun i => subF n (b.funs.getD i ty0) (a.funs.getD i ty0)) && subF n (a.funs.getD m ty0) (b.funs.getD m ty0)) := by rw [HFB2.out, l0, l1, show (yn != 0) = true by rw [bne, l2]; rfl, show (xn != 2) = true by rw [bne, l3]; rfl, hm]; simp
            have HFF := Lib.hid hfb
            have HMN := Lib.hid hm
            have HM9 := Lib.hid (show m ≤ 8 by omega)
            clear k0 k1 k2 k3 hx1 hnl hm hfb
            go_wp2
            go_loopw [15] (fun i wr => ∃ k : Nat, k ≤ m ∧ i = .int .i64 k ∧ Hid (((List.range k).all fun i => subF n (b.funs.getD i ty0) (a.funs.getD i ty0)) = true) ∧ Hid (Below w6.heap.size w6 wr)) (fun i _ => m - (intOf i).toNat)
            case atStart => exact ⟨0, Nat.zero_le _, rfl, Lib.hid rfl, Lib.hid (Below.refl _ _)⟩
            case round =>
              obtain ⟨j, hj, rfl, HAL, HBL⟩ := hrel
              clear qa2 qa4 qa5 ta qb2 qb4 qb5 tb
              have HVa_7 := Lib.hid (HVa_6.out.keep HBL.out)
              have HNa_7 := Lib.hid (HNa_6.out.below HBL.out)
              have HVb_7 := Lib.hid (HVb_6.out.keep HBL.out)
              have HNb_7 := Lib.hid (HNb_6.out.below HBL.out)
              have HSaf_7 := Lib.hid (HSaf_6.out.under HBL.out)
              have HSbf_7 := Lib.hid (HSbf_6.out.under HBL.out)
              have HBW_7 := Lib.hid (HBW_6.out.trans (HBL.out.mono HBW_6.out.size))
              have qa5 := HVa_7.out.c5
              have ta := HVa_7.out.lt
              have qb5 := HVb_7.out.c5
              have tb := HVb_7.out.lt
              by_cases hgo : j < m
              · have hlt : (j : Int) < m := by omega
                have hjf : (j : Int) < nf := by omega
                obtain ⟨d, hd⟩ : ∃ d, a.funs.getD j ty0 = d := ⟨_, rfl⟩
                obtain ⟨e, he⟩ : ∃ d, b.funs.getD j ty0 = d := ⟨_, rfl⟩
                obtain ⟨b1, o1, p1, c1', p2, c2', rfl, hb1, e0, e1, e2, e3, e4, e5, hv⟩ := HSaf_7.out.elem (show j < _ by rw [← HNF.out]; have := HMN.out; omega) hd
                obtain ⟨b2, o2, r1, d1', r2, d2', rfl, hb2, f0, f1, f2, f3, f4, f5, hu⟩ := HSbf_7.out.elem (show j < _ by rw [← HMF.out]; have := HMN.out; omega) he
                have hsa := HFA.out j (by have := HMN.out; omega)
                have hsb := HFB.out j (by have := HMN.out; omega)
                rw [hd] at hsa
                rw [he] at hsb
                obtain ⟨q1, hq1⟩ : ∃ q, q = d.pairs.length := ⟨_, rfl⟩
                obtain ⟨q2, hq2⟩ : ∃ q, q = d.funs.length := ⟨_, rfl⟩
                obtain ⟨s1, hs1⟩ : ∃ q, q = e.pairs.length := ⟨_, rfl⟩
                obtain ⟨s2, hs2⟩ : ∃ q, q = e.funs.length := ⟨_, rfl⟩
                rw [← hq1] at e3 hv
                rw [← hq2] at e5 hv
                rw [← hs1] at f3 hu
                rw [← hs2] at f5 hu
                have C := HI.out e d _ _ wr.drew (by have := HSZ.out; omega) hsb.2 hsa.2 (hu.below (Below.refl _ _).drew) (hv.below (Below.refl _ _).drew)
                obtain ⟨z, hz⟩ : ∃ z, z = subF n e d := ⟨_, rfl⟩
                rw [← hz] at C
                have hno : z = false → ((List.range m).all fun i => subF n (b.funs.getD i ty0) (a.funs.getD i ty0)) = false := fun h => by
                  rw [List.all_eq_false]
                  exact ⟨j, List.mem_range.2 hgo, by rw [hd, he, ← hz, h]; simp⟩
                have hyes : z = true → ((List.range (j + 1)).all fun i => subF n (b.funs.getD i ty0) (a.funs.getD i ty0)) = true := fun h => by
                  rw [List.range_succ, List.all_append, HAL.out, Bool.true_and]
                  simp only [List.all_cons, List.all_nil, Bool.and_true]
                  rw [hd, he, ← hz, h]
                have HC3 := Lib.hid C
                have HNO := Lib.hid hno
                have HYES := Lib.hid hyes
                have HJ := Lib.hid hgo
                clear hd he hv hu C hz hq1 hq2 hs1 hs2 hsa hsb hgo hj hno hyes HAL
                go_wp2_with fail
                go_still_tail 10, (by kernel_rfl)
                change wpList _ _ _ _ _ wr.drew
                go_wp2_with fail
                refine HC3.out.mono ?_
                rintro e w5 ⟨rfl, hbw⟩
                have HB5 := Lib.hid (HBL.out.trans ((Below.refl _ _).drew.trans (hbw.mono HBL.out.size)))
                have HB6 := Lib.hid (HBW_7.out.trans ((Below.refl _ _).drew.trans (hbw.mono HBW_7.out.size)))
                clear hbw
                cases z with
                | false =>
                  have hff := HNO.out rfl
                  have hres : subF (n + 1) a b = false := by rw [HR.out, HFN.out, HPT.out, HFF.out, hff]; rfl
                  have HRES := Lib.hid hres
                  clear hres hff
                  go_wp2
                  go_ret
                  exact ⟨ret_bool (by rw [HRES.out]), HB6.out⟩
                | true =>
                  go_wp2
                  exact ⟨⟨j + 1, by have := HJ.out; omega, by go_num, Lib.hid (HYES.out (by trivial)), HB5⟩, by have := HJ.out; simp [intOf]; omega⟩
              · have hlt : ¬ (j : Int) < m := by omega
                have hjm : j = m := by omega
                subst hjm
                obtain ⟨d, hd⟩ : ∃ d, a.funs.getD j ty0 = d := ⟨_, rfl⟩
                obtain ⟨e, he⟩ : ∃ d, b.funs.getD j ty0 = d := ⟨_, rfl⟩
                obtain ⟨b1, o1, p1, c1', p2, c2', rfl, hb1, e0, e1, e2, e3, e4, e5, hv⟩ := HSaf_7.out.elem (show j < _ by rw [← HNF.out]; have := HMN.out; omega) hd
                obtain ⟨b2, o2, r1, d1', r2, d2', rfl, hb2, f0, f1, f2, f3, f4, f5, hu⟩ := HSbf_7.out.elem (show j < _ by rw [← HMF.out]; have := HMN.out; omega) he
                have hsa := HFA.out j (by have := HMN.out; omega)
                have hsb := HFB.out j (by have := HMN.out; omega)
                rw [hd] at hsa
                rw [he] at hsb
                obtain ⟨q1, hq1⟩ : ∃ q, q = d.pairs.length := ⟨_, rfl⟩
                obtain ⟨q2, hq2⟩ : ∃ q, q = d.funs.length := ⟨_, rfl⟩
                obtain ⟨s1, hs1⟩ : ∃ q, q = e.pairs.length := ⟨_, rfl⟩
                obtain ⟨s2, hs2⟩ : ∃ q, q = e.funs.length := ⟨_, rfl⟩
                rw [← hq1] at e3 hv
                rw [← hq2] at e5 hv
                rw [← hs1] at f3 hu
                rw [← hs2] at f5 hu
                have C := HI.out d e _ _ wr.drew (by have := HSZ.out; omega) hsa.2 hsb.2 (hv.below (Below.refl _ _).drew) (hu.below (Below.refl _ _).drew)
                obtain ⟨z, hz⟩ : ∃ z, z = subF n d e := ⟨_, rfl⟩
                rw [← hz] at C
                have hres : subF (n + 1) a b = z := by rw [HR.out, HFN.out, HPT.out, HFF.out, HAL.out, hd, he, ← hz]; cases z <;> rfl
                have HRES := Lib.hid hres
                have HC3 := Lib.hid C
                clear hres hd he hv hu C hz hq1 hq2 hs1 hs2 hsa hsb hgo hj HAL
                go_wp2_with fail
                go_still_tail 10, (by kernel_rfl)
                change wpList _ _ _ _ _ wr.drew
                go_wp2_with fail
                refine HC3.out.mono ?_
                rintro e w5 ⟨rfl, hbw⟩
                have HB6 := Lib.hid (HBW_7.out.trans ((Below.refl _ _).drew.trans (hbw.mono HBW_7.out.size)))
                clear hbw
                go_wp2
                go_ret
                exact ⟨ret_bool (by rw [HRES.out]), HB6.out⟩
      have dx1 : (xp == 1) = false := beq_false_of_ne h1
      by_cases h2 : yp = 1
      · have HCP : Hid (szT dx < szT a ∨ szT dy < szT b) := Lib.hid (Or.inr (HDB2.out.2.1 h2))
        subst h2
        clear h1
        as_aux_lemma =>
          go_wp2_with fail
          clear qa0 qa1 qa2 qa3 qa4 qa5 ta qb0 qb1 qb2 qb3 qb4 qb5 tb
          refine (cdr_any (fun _ => False) a _ _ (fun _ h => h.elim) HNa_3.out.n).mono ?_
          rintro e w304 ⟨⟨v, rfl, hv⟩, hb⟩
          replace hv := hv.v
          obtain ⟨rax, rbx, rcx, rdx, rfl, _, _⟩ := hv.form
          have qb0 := (HVb_3.out.keep hb).c0
          have qb1 := (HVb_3.out.keep hb).c1
          have qb2 := (HVb_3.out.keep hb).c2
          have qb3 := (HVb_3.out.keep hb).c3
          have qb4 := (HVb_3.out.keep hb).c4
          have qb5 := (HVb_3.out.keep hb).c5
          have tb := (HVb_3.out.keep hb).lt
          obtain ⟨W304, hW304⟩ : ∃ W, W = w304.alloc (.cells #[.bool (cdrT a).all, .int .i64 (cdrT a).flat, .int .i64 (cdrT a).pair, .slice rax (cdrT a).pairs.length rbx, .int .i64 (cdrT a).fn, .slice rcx (cdrT a).funs.length rdx] 24) := ⟨_, rfl⟩
          obtain ⟨gx, hgx⟩ : ∃ g, g = w304.heap.size := ⟨_, rfl⟩
          have HBW304 := Lib.hid (show Below w4.heap.size w4 W304 by rw [hW304]; exact hb.alloc hb.size _)
          have HVn := Lib.hid (show BoxAt W304 gx _ _ _ _ _ _ by rw [hW304, hgx]; exact BoxAt.made w304 (cdrT a).all (cdrT a).flat (cdrT a).pair (.slice rax (cdrT a).pairs.length rbx) (cdrT a).fn (.slice rcx (cdrT a).funs.length rdx))
          have HNn := Lib.hid (show TyV W304 _ (cdrT a) by rw [hW304]; exact hv.below ((Below.refl _ _).alloc (Nat.le_refl _) _))
          have HW304 := Lib.hid hW304
          have HGx := Lib.hid hgx
          clear hv hb hW304 hgx
          have HVa_4 := Lib.hid (HVa_3.out.keep HBW304.out)
          have HNa_4 := Lib.hid (HNa_3.out.below HBW304.out)
          have HVb_4 := Lib.hid (HVb_3.out.keep HBW304.out)
          have HNb_4 := Lib.hid (HNb_3.out.below HBW304.out)
          have HSaf_4 := Lib.hid (HSaf_3.out.under HBW304.out)
          have HSbf_4 := Lib.hid (HSbf_3.out.under HBW304.out)
          have HBW_4 := Lib.hid (HBW_3.out.trans (HBW304.out.mono HBW_3.out.size))
          have HVx_4 := HVn
          have HNx_4 := HNn
          clear HVn HNn HBW304
          go_wp2_with fail
          rw [← HGx.out, ← HW304.out]
          clear qb0 qb1 qb2 qb3 qb4 qb5 tb
          refine (cdr_any (fun _ => False) b _ _ (fun _ h => h.elim) HNb_4.out.n).mono ?_
          rintro e w305 ⟨⟨v, rfl, hv⟩, hb⟩
          replace hv := hv.v
          obtain ⟨ray, rby, rcy, rdy, rfl, _, _⟩ := hv.form
          have qx0 := (HVx_4.out.keep hb).c0
          have qx1 := (HVx_4.out.keep hb).c1
          have qx2 := (HVx_4.out.keep hb).c2
          have qx3 := (HVx_4.out.keep hb).c3
          have qx4 := (HVx_4.out.keep hb).c4
          have qx5 := (HVx_4.out.keep hb).c5
          have tx := (HVx_4.out.keep hb).lt
          obtain ⟨W305, hW305⟩ : ∃ W, W = w305.alloc (.cells #[.bool (cdrT b).all, .int .i64 (cdrT b).flat, .int .i64 (cdrT b).pair, .slice ray (cdrT b).pairs.length rby, .int .i64 (cdrT b).fn, .slice rcy (cdrT b).funs.length rdy] 24) := ⟨_, rfl⟩
          obtain ⟨gy, hgy⟩ : ∃ g, g = w305.heap.size := ⟨_, rfl⟩
          have HBW305 := Lib.hid (show Below W304.heap.size W304 W305 by rw [hW305]; exact hb.alloc hb.size _)
          have HVn := Lib.hid (show BoxAt W305 gy _ _ _ _ _ _ by rw [hW305, hgy]; exact BoxAt.made w305 (cdrT b).all (cdrT b).flat (cdrT b).pair (.slice ray (cdrT b).pairs.length rby) (cdrT b).fn (.slice rcy (cdrT b).funs.length rdy))
          have HNn := Lib.hid (show TyV W305 _ (cdrT b) by rw [hW305]; exact hv.below ((Below.refl _ _).alloc (Nat.le_refl _) _))
          have HW305 := Lib.hid hW305
          have HGy := Lib.hid hgy
          clear hv hb hW305 hgy
          have HVa_5 := Lib.hid (HVa_4.out.keep HBW305.out)
          have HNa_5 := Lib.hid (HNa_4.out.below HBW305.out)
          have HVb_5 := Lib.hid (HVb_4.out.keep HBW305.out)
          have HNb_5 := Lib.hid (HNb_4.out.below HBW305.out)
          have HVx_5 := Lib.hid (HVx_4.out.keep HBW305.out)
          have HNx_5 := Lib.hid (HNx_4.out.below HBW305.out)
          have HSaf_5 := Lib.hid (HSaf_4.out.under HBW305.out)
          have HSbf_5 := Lib.hid (HSbf_4.out.under HBW305.out)
          have HBW_5 := Lib.hid (HBW_4.out.trans (HBW305.out.mono HBW_4.out.size))
          have HVy_5 := HVn
          have HNy_5 := HNn
          clear HVn HNn HBW305
          have hcc := HI.out (cdrT a) (cdrT b) _ _ W305 (by have := HSZ.out; have := HDA2.out.1; have := HDB2.out.1; have := HCP.out; rw [HDX.out] at *; rw [HDY.out] at *; omega) (by rw [← HDX.out]; exact HDA2.out.2.2) (by rw [← HDY.out]; exact HDB2.out.2.2) HNx_5.out HNy_5.out
          rw [← HDX.out, ← HDY.out, ← HC2.out] at hcc
          have HCC := Lib.hid hcc
          clear hcc
          go_wp2_with fail
          rw [← HGy.out, ← HW305.out]
          clear qx0 qx1 qx2 qx3 qx4 qx5 tx
          rw [← HDX.out, ← HDY.out]
          refine HCC.out.mono ?_
          rintro e w6 ⟨rfl, hb4⟩
          have HB4 := Lib.hid hb4
          clear hb4 HCC
          have HVa_6 := Lib.hid (HVa_5.out.keep HB4.out)
          have HNa_6 := Lib.hid (HNa_5.out.below HB4.out)
          have HVb_6 := Lib.hid (HVb_5.out.keep HB4.out)
          have HNb_6 := Lib.hid (HNb_5.out.below HB4.out)
          have HSaf_6 := Lib.hid (HSaf_5.out.under HB4.out)
          have HSbf_6 := Lib.hid (HSbf_5.out.under HB4.out)
          have HBW_6 := Lib.hid (HBW_5.out.trans (HB4.out.mono HBW_5.out.size))
          have qa0 := HVa_6.out.c0
          have qa1 := HVa_6.out.c1
          have qa2 := HVa_6.out.c2
          have qa3 := HVa_6.out.c3
          have qa4 := HVa_6.out.c4
          have qa5 := HVa_6.out.c5
          have ta := HVa_6.out.lt
          have qb0 := HVb_6.out.c0
          have qb1 := HVb_6.out.c1
          have qb2 := HVb_6.out.c2
          have qb3 := HVb_6.out.c3
          have qb4 := HVb_6.out.c4
          have qb5 := HVb_6.out.c5
          have tb := HVb_6.out.lt
          cases c2 with
          | false =>
            have hpb : pB = false := by rw [HPB.out, dx0]; simp [bne]
            have HPF := Lib.hid hpb
            clear hpb
            have hres : subF (n + 1) a b = false := by rw [HR.out]; rw [HFN.out, HPF.out]; rfl
            have HRES := Lib.hid hres
            clear hres
            go_wp2
            go_ret
            exact ⟨ret_bool (by rw [HRES.out]), HBW_6.out⟩
          | true =>
            clear qa0 qa1 qa2 qa3 qa4 qa5 ta qb0 qb1 qb2 qb3 qb4 qb5 tb
            have qa2 := HVa_6.out.c2
            have qa4 := HVa_6.out.c4
            have qa5 := HVa_6.out.c5
            have ta := HVa_6.out.lt
            have qb2 := HVb_6.out.c2
            have qb4 := HVb_6.out.c4
            have qb5 := HVb_6.out.c5
            have tb := HVb_6.out.lt
            have hpb : pB = true := by rw [HPB.out]; simp [dy0, bne]
            have HPT := Lib.hid hpb
            clear hpb
            by_cases k0 : xn = 0
            · subst k0
              have hres : subF (n + 1) a b = true := by rw [HR.out]; rw [HFN.out, HPT.out, HFB2.out]; rfl
              have HRES := Lib.hid hres
              clear hres
              go_wp2
              go_ret
              exact ⟨ret_bool (by rw [HRES.out]), HBW_6.out⟩
            have l0 : (xn == 0) = false := beq_false_of_ne k0
            by_cases k1 : yn = 2
            · subst k1
              clear k0
              have hres : subF (n + 1) a b = true := by rw [HR.out]; rw [HFN.out, HPT.out, HFB2.out]; simp
              have HRES := Lib.hid hres
              clear hres
              go_wp2
              go_ret
              exact ⟨ret_bool (by rw [HRES.out]), HBW_6.out⟩
            have l1 : (yn == 2) = false := beq_false_of_ne k1
            by_cases k2 : yn = 0
            · subst k2
              have hfb : fB = false := by rw [HFB2.out, l0]; simp
              have HFF := Lib.hid hfb
              clear k0 k1 hfb
              have hres : subF (n + 1) a b = false := by rw [HR.out]; rw [HFN.out, HPT.out, HFF.out]; rfl
              have HRES := Lib.hid hres
              clear hres
              go_wp2
              go_ret
              exact ⟨ret_bool (by rw [HRES.out]), HBW_6.out⟩
            have l2 : (yn == 0) = false := beq_false_of_ne k2
            by_cases k3 : xn = 2
            · subst k3
              have hfb : fB = false := by rw [HFB2.out, l1]; simp
              have HFF := Lib.hid hfb
              clear k0 k1 k2 hfb
              have hres : subF (n + 1) a b = false := by rw [HR.out]; rw [HFN.out, HPT.out, HFF.out]; rfl
              have HRES := Lib.hid hres
              clear hres
              go_wp2
              go_ret
              exact ⟨ret_bool (by rw [HRES.out]), HBW_6.out⟩
            have l3 : (xn == 2) = false := beq_false_of_ne k3
            by_cases k4 : nf = mf
            case neg =>
              have e4 : ((nf : Int) != (mf : Int)) = true := by rw [bne_iff_ne]; omega
              have hfb : fB = false := by rw [HFB2.out, l0, l1, show (nf == mf) = false from beq_false_of_ne k4]; simp
              have HFF := Lib.hid hfb
              clear k0 k1 k2 k3 k4 hfb
              have hres : subF (n + 1) a b = false := by rw [HR.out]; rw [HFN.out, HPT.out, HFF.out]; rfl
              have HRES := Lib.hid hres
              clear hres
              go_wp2
              go_ret
              exact ⟨ret_bool (by rw [HRES.out]), HBW_6.out⟩
            subst k4
            have hx1 : xn = 1 := by have := HHA.out; omega
            have hnl := HHA.out.2.2.2.2.2.2.2.2.2 hx1
            obtain ⟨m, hm⟩ : ∃ m, nf = m + 1 := ⟨nf - 1, by omega⟩
            have hmi : ((nf : Nat) : Int) - 1 = m := by omega
            have hmf : (m : Int) < nf := by omega
            have hm9 : (m : Int) ≤ 8 := by omega
            have hfb : fB = (((List.range m).all fun i => subF n (b.funs.getD i ty0) (a.funs.getD i ty0)) && subF n (a.funs.getD m ty0) (b.funs.getD m ty0)) := by rw [HFB2.out, l0, l1, show (yn != 0) = true by rw [bne, l2]; rfl, show (xn != 2) = true by rw [bne, l3]; rfl, hm]; simp
            have HFF := Lib.hid hfb
            have HMN := Lib.hid hm
            have HM9 := Lib.hid (show m ≤ 8 by omega)
            clear k0 k1 k2 k3 hx1 hnl hm hfb
            go_wp2
            go_loopw [15] (fun i wr => ∃ k : Nat, k ≤ m ∧ i = .int .i64 k ∧ Hid (((List.range k).all fun i => subF n (b.funs.getD i ty0) (a.funs.getD i ty0)) = true) ∧ Hid (Below w6.heap.size w6 wr)) (fun i _ => m - (intOf i).toNat)
            case atStart => exact ⟨0, Nat.zero_le _, rfl, Lib.hid rfl, Lib.hid (Below.refl _ _)⟩
            case round =>
              obtain ⟨j, hj, rfl, HAL, HBL⟩ := hrel
              clear qa2 qa4 qa5 ta qb2 qb4 qb5 tb
              have HVa_7 := Lib.hid (HVa_6.out.keep HBL.out)
              have HNa_7 := Lib.hid (HNa_6.out.below HBL.out)
              have HVb_7 := Lib.hid (HVb_6.out.keep HBL.out)
              have HNb_7 := Lib.hid (HNb_6.out.below HBL.out)
              have HSaf_7 := Lib.hid (HSaf_6.out.under HBL.out)
              have HSbf_7 := Lib.hid (HSbf_6.out.under HBL.out)
              have HBW_7 := Lib.hid (HBW_6.out.trans (HBL.out.mono HBW_6.out.size))
              have qa5 := HVa_7.out.c5
              have ta := HVa_7.out.lt
              have qb5 := HVb_7.out.c5
              have tb := HVb_7.out.lt
              by_cases hgo : j < m
              · have hlt : (j : Int) < m := by omega
                have hjf : (j : Int) < nf := by omega
                obtain ⟨d, hd⟩ : ∃ d, a.funs.getD j ty0 = d := ⟨_, rfl⟩
                obtain ⟨e, he⟩ : ∃ d, b.funs.getD j ty0 = d := ⟨_, rfl⟩
                obtain ⟨b1, o1, p1, c1', p2, c2', rfl, hb1, e0, e1, e2, e3, e4, e5, hv⟩ := HSaf_7.out.elem (show j < _ by rw [← HNF.out]; have := HMN.out; omega) hd
                obtain ⟨b2, o2, r1, d1', r2, d2', rfl, hb2, f0, f1, f2, f3, f4, f5, hu⟩ := HSbf_7.out.elem (show j < _ by rw [← HMF.out]; have := HMN.out; omega) he
                have hsa := HFA.out j (by have := HMN.out; omega)
                have hsb := HFB.out j (by have := HMN.out; omega)
                rw [hd] at hsa
                rw [he] at hsb
                obtain ⟨q1, hq1⟩ : ∃ q, q = d.pairs.length := ⟨_, rfl⟩
                obtain ⟨q2, hq2⟩ : ∃ q, q = d.funs.length := ⟨_, rfl⟩
                obtain ⟨s1, hs1⟩ : ∃ q, q = e.pairs.length := ⟨_, rfl⟩
                obtain ⟨s2, hs2⟩ : ∃ q, q = e.funs.length := ⟨_, rfl⟩
                rw [← hq1] at e3 hv
                rw [← hq2] at e5 hv
                rw [← hs1] at f3 hu
                rw [← hs2] at f5 hu
                have C := HI.out e d _ _ wr.drew (by have := HSZ.out; omega) hsb.2 hsa.2 (hu.below (Below.refl _ _).drew) (hv.below (Below.refl _ _).drew)
                obtain ⟨z, hz⟩ : ∃ z, z = subF n e d := ⟨_, rfl⟩
                rw [← hz] at C
                have hno : z = false → ((List.range m).all fun i => subF n (b.funs.getD i ty0) (a.funs.getD i ty0)) = false := fun h => by
                  rw [List.all_eq_false]
                  exact ⟨j, List.mem_range.2 hgo, by rw [hd, he, ← hz, h]; simp⟩
                have hyes : z = true → ((List.range (j + 1)).all fun i => subF n (b.funs.getD i ty0) (a.funs.getD i ty0)) = true := fun h => by
                  rw [List.range_succ, List.all_append, HAL.out, Bool.true_and]
                  simp only [List.all_cons, List.all_nil, Bool.and_true]
                  rw [hd, he, ← hz, h]
                have HC3 := Lib.hid C
                have HNO := Lib.hid hno
                have HYES := Lib.hid hyes
                have HJ := Lib.hid hgo
                clear hd he hv hu C hz hq1 hq2 hs1 hs2 hsa hsb hgo hj hno hyes HAL
                go_wp2_with fail
                go_still_tail 10, (by kernel_rfl)
                change wpList _ _ _ _ _ wr.drew
                go_wp2_with fail
                refine HC3.out.mono ?_
                rintro e w5 ⟨rfl, hbw⟩
                have HB5 := Lib.hid (HBL.out.trans ((Below.refl _ _).drew.trans (hbw.mono HBL.out.size)))
                have HB6 := Lib.hid (HBW_7.out.trans ((Below.refl _ _).drew.trans (hbw.mono HBW_7.out.size)))
                clear hbw
                cases z with
                | false =>
                  have hff := HNO.out rfl
                  have hres : subF (n + 1) a b = false := by rw [HR.out, HFN.out, HPT.out, HFF.out, hff]; rfl
                  have HRES := Lib.hid hres
                  clear hres hff
                  go_wp2
                  go_ret
                  exact ⟨ret_bool (by rw [HRES.out]), HB6.out⟩
                | true =>
                  go_wp2
                  exact ⟨⟨j + 1, by have := HJ.out; omega, by go_num, Lib.hid (HYES.out (by trivial)), HB5⟩, by have := HJ.out; simp [intOf]; omega⟩
              · have hlt : ¬ (j : Int) < m := by omega
                have hjm : j = m := by omega
                subst hjm
                obtain ⟨d, hd⟩ : ∃ d, a.funs.getD j ty0 = d := ⟨_, rfl⟩
                obtain ⟨e, he⟩ : ∃ d, b.funs.getD j ty0 = d := ⟨_, rfl⟩
                obtain ⟨b1, o1, p1, c1', p2, c2', rfl, hb1, e0, e1, e2, e3, e4, e5, hv⟩ := HSaf_7.out.elem (show j < _ by rw [← HNF.out]; have := HMN.out; omega) hd
                obtain ⟨b2, o2, r1, d1', r2, d2', rfl, hb2, f0, f1, f2, f3, f4, f5, hu⟩ := HSbf_7.out.elem (show j < _ by rw [← HMF.out]; have := HMN.out; omega) he
                have hsa := HFA.out j (by have := HMN.out; omega)
                have hsb := HFB.out j (by have := HMN.out; omega)
                rw [hd] at hsa
                rw [he] at hsb
                obtain ⟨q1, hq1⟩ : ∃ q, q = d.pairs.length := ⟨_, rfl⟩
                obtain ⟨q2, hq2⟩ : ∃ q, q = d.funs.length := ⟨_, rfl⟩
                obtain ⟨s1, hs1⟩ : ∃ q, q = e.pairs.length := ⟨_, rfl⟩
                obtain ⟨s2, hs2⟩ : ∃ q, q = e.funs.length := ⟨_, rfl⟩
                rw [← hq1] at e3 hv
                rw [← hq2] at e5 hv
                rw [← hs1] at f3 hu
                rw [← hs2] at f5 hu
                have C := HI.out d e _ _ wr.drew (by have := HSZ.out; omega) hsa.2 hsb.2 (hv.below (Below.refl _ _).drew) (hu.below (Below.refl _ _).drew)
                obtain ⟨z, hz⟩ : ∃ z, z = subF n d e := ⟨_, rfl⟩
                rw [← hz] at C
                have hres : subF (n + 1) a b = z := by rw [HR.out, HFN.out, HPT.out, HFF.out, HAL.out, hd, he, ← hz]; cases z <;> rfl
                have HRES := Lib.hid hres
                have HC3 := Lib.hid C
                clear hres hd he hv hu C hz hq1 hq2 hs1 hs2 hsa hsb hgo hj HAL
                go_wp2_with fail
                go_still_tail 10, (by kernel_rfl)
                change wpList _ _ _ _ _ wr.drew
                go_wp2_with fail
                refine HC3.out.mono ?_
                rintro e w5 ⟨rfl, hbw⟩
                have HB6 := Lib.hid (HBW_7.out.trans ((Below.refl _ _).drew.trans (hbw.mono HBW_7.out.size)))
                clear hbw
                go_wp2
                go_ret
                exact ⟨ret_bool (by rw [HRES.out]), HB6.out⟩
      have dy1 : (yp == 1) = false := beq_false_of_ne h2
      clear h1 h2
      as_aux_lemma =>
        clear qa0 qa1 qa2 qa3 qa4 qa5 ta qb0 qb1 qb2 qb3 qb4 qb5 tb
        have qa2 := HVa_3.out.c2
        have qa4 := HVa_3.out.c4
        have qa5 := HVa_3.out.c5
        have ta := HVa_3.out.lt
        have qb2 := HVb_3.out.c2
        have qb4 := HVb_3.out.c4
        have qb5 := HVb_3.out.c5
        have tb := HVb_3.out.lt
        have hpb : pB = true := by rw [HPB.out, dx1, dy1]; simp [dy0, bne]
        have HPT := Lib.hid hpb
        clear hpb
        by_cases k0 : xn = 0
        · subst k0
          have hres : subF (n + 1) a b = true := by rw [HR.out]; rw [HFN.out, HPT.out, HFB2.out]; rfl
          have HRES := Lib.hid hres
          clear hres
          go_wp2
          go_ret
          exact ⟨ret_bool (by rw [HRES.out]), HBW_3.out⟩
        have l0 : (xn == 0) = false := beq_false_of_ne k0
        by_cases k1 : yn = 2
        · subst k1
          clear k0
          have hres : subF (n + 1) a b = true := by rw [HR.out]; rw [HFN.out, HPT.out, HFB2.out]; simp
          have HRES := Lib.hid hres
          clear hres
          go_wp2
          go_ret
          exact ⟨ret_bool (by rw [HRES.out]), HBW_3.out⟩
        have l1 : (yn == 2) = false := beq_false_of_ne k1
        by_cases k2 : yn = 0
        · subst k2
          have hfb : fB = false := by rw [HFB2.out, l0]; simp
          have HFF := Lib.hid hfb
          clear k0 k1 hfb
          have hres : subF (n + 1) a b = false := by rw [HR.out]; rw [HFN.out, HPT.out, HFF.out]; rfl
          have HRES := Lib.hid hres
          clear hres
          go_wp2
          go_ret
          exact ⟨ret_bool (by rw [HRES.out]), HBW_3.out⟩
        have l2 : (yn == 0) = false := beq_false_of_ne k2
        by_cases k3 : xn = 2
        · subst k3
          have hfb : fB = false := by rw [HFB2.out, l1]; simp
          have HFF := Lib.hid hfb
          clear k0 k1 k2 hfb
          have hres : subF (n + 1) a b = false := by rw [HR.out]; rw [HFN.out, HPT.out, HFF.out]; rfl
          have HRES := Lib.hid hres
          clear hres
          go_wp2
          go_ret
          exact ⟨ret_bool (by rw [HRES.out]), HBW_3.out⟩
        have l3 : (xn == 2) = false := beq_false_of_ne k3
        by_cases k4 : nf = mf
        case neg =>
          have e4 : ((nf : Int) != (mf : Int)) = true := by rw [bne_iff_ne]; omega
          have hfb : fB = false := by rw [HFB2.out, l0, l1, show (nf == mf) = false from beq_false_of_ne k4]; simp
          have HFF := Lib.hid hfb
          clear k0 k1 k2 k3 k4 hfb
          have hres : subF (n + 1) a b = false := by rw [HR.out]; rw [HFN.out, HPT.out, HFF.out]; rfl
          have HRES := Lib.hid hres
          clear hres
          go_wp2
          go_ret
          exact ⟨ret_bool (by rw [HRES.out]), HBW_3.out⟩
        subst k4
        have hx1 : xn = 1 := by have := HHA.out; omega
        have hnl := HHA.out.2.2.2.2.2.2.2.2.2 hx1
        obtain ⟨m, hm⟩ : ∃ m, nf = m + 1 := ⟨nf - 1, by omega⟩
        have hmi : ((nf : Nat) : Int) - 1 = m := by omega
        have hmf : (m : Int) < nf := by omega
        have hm9 : (m : Int) ≤ 8 := by omega
        have hfb : fB = (((List.range m).all fun i => subF n (b.funs.getD i ty0) (a.funs.getD i ty0)) && subF n (a.funs.getD m ty0) (b.funs.getD m ty0)) := by rw [HFB2.out, l0, l1, show (yn != 0) = true by rw [bne, l2]; rfl, show (xn != 2) = true by rw [bne, l3]; rfl, hm]; simp
        have HFF := Lib.hid hfb
        have HMN := Lib.hid hm
        have HM9 := Lib.hid (show m ≤ 8 by omega)
        clear k0 k1 k2 k3 hx1 hnl hm hfb
        go_wp2
        go_loopw [15] (fun i wr => ∃ k : Nat, k ≤ m ∧ i = .int .i64 k ∧ Hid (((List.range k).all fun i => subF n (b.funs.getD i ty0) (a.funs.getD i ty0)) = true) ∧ Hid (Below w4.heap.size w4 wr)) (fun i _ => m - (intOf i).toNat)
        case atStart => exact ⟨0, Nat.zero_le _, rfl, Lib.hid rfl, Lib.hid (Below.refl _ _)⟩
        case round =>
          obtain ⟨j, hj, rfl, HAL, HBL⟩ := hrel
          clear qa2 qa4 qa5 ta qb2 qb4 qb5 tb
          have HVa_4 := Lib.hid (HVa_3.out.keep HBL.out)
          have HNa_4 := Lib.hid (HNa_3.out.below HBL.out)
          have HVb_4 := Lib.hid (HVb_3.out.keep HBL.out)
          have HNb_4 := Lib.hid (HNb_3.out.below HBL.out)
          have HSaf_4 := Lib.hid (HSaf_3.out.under HBL.out)
          have HSbf_4 := Lib.hid (HSbf_3.out.under HBL.out)
          have HBW_4 := Lib.hid (HBW_3.out.trans (HBL.out.mono HBW_3.out.size))
          have qa5 := HVa_4.out.c5
          have ta := HVa_4.out.lt
          have qb5 := HVb_4.out.c5
          have tb := HVb_4.out.lt
          by_cases hgo : j < m
          · have hlt : (j : Int) < m := by omega
            have hjf : (j : Int) < nf := by omega
            obtain ⟨d, hd⟩ : ∃ d, a.funs.getD j ty0 = d := ⟨_, rfl⟩
            obtain ⟨e, he⟩ : ∃ d, b.funs.getD j ty0 = d := ⟨_, rfl⟩
            obtain ⟨b1, o1, p1, c1', p2, c2', rfl, hb1, e0, e1, e2, e3, e4, e5, hv⟩ := HSaf_4.out.elem (show j < _ by rw [← HNF.out]; have := HMN.out; omega) hd
            obtain ⟨b2, o2, r1, d1', r2, d2', rfl, hb2, f0, f1, f2, f3, f4, f5, hu⟩ := HSbf_4.out.elem (show j < _ by rw [← HMF.out]; have := HMN.out; omega) he
            have hsa := HFA.out j (by have := HMN.out; omega)
            have hsb := HFB.out j (by have := HMN.out; omega)
            rw [hd] at hsa
            rw [he] at hsb
            obtain ⟨q1, hq1⟩ : ∃ q, q = d.pairs.length := ⟨_, rfl⟩
            obtain ⟨q2, hq2⟩ : ∃ q, q = d.funs.length := ⟨_, rfl⟩
            obtain ⟨s1, hs1⟩ : ∃ q, q = e.pairs.length := ⟨_, rfl⟩
            obtain ⟨s2, hs2⟩ : ∃ q, q = e.funs.length := ⟨_, rfl⟩
            rw [← hq1] at e3 hv
            rw [← hq2] at e5 hv
            rw [← hs1] at f3 hu
            rw [← hs2] at f5 hu
            have C := HI.out e d _ _ wr.drew (by have := HSZ.out; omega) hsb.2 hsa.2 (hu.below (Below.refl _ _).drew) (hv.below (Below.refl _ _).drew)
            obtain ⟨z, hz⟩ : ∃ z, z = subF n e d := ⟨_, rfl⟩
            rw [← hz] at C
            have hno : z = false → ((List.range m).all fun i => subF n (b.funs.getD i ty0) (a.funs.getD i ty0)) = false := fun h => by
              rw [List.all_eq_false]
              exact ⟨j, List.mem_range.2 hgo, by rw [hd, he, ← hz, h]; simp⟩
            have hyes : z = true → ((List.range (j + 1)).all fun i => subF n (b.funs.getD i ty0) (a.funs.getD i ty0)) = true := fun h => by
              rw [List.range_succ, List.all_append, HAL.out, Bool.true_and]
              simp only [List.all_cons, List.all_nil, Bool.and_true]
              rw [hd, he, ← hz, h]
            have HC3 := Lib.hid C
            have HNO := Lib.hid hno
            have HYES := Lib.hid hyes
            have HJ := Lib.hid hgo
            clear hd he hv hu C hz hq1 hq2 hs1 hs2 hsa hsb hgo hj hno hyes HAL
            go_wp2_with fail
            go_still_tail 10, (by kernel_rfl)
            change wpList _ _ _ _ _ wr.drew
            go_wp2_with fail
            refine HC3.out.mono ?_
            rintro e w5 ⟨rfl, hbw⟩
            have HB5 := Lib.hid (HBL.out.trans ((Below.refl _ _).drew.trans (hbw.mono HBL.out.size)))
            have HB6 := Lib.hid (HBW_4.out.trans ((Below.refl _ _).drew.trans (hbw.mono HBW_4.out.size)))
            clear hbw
            cases z with
            | false =>
              have hff := HNO.out rfl
              have hres : subF (n + 1) a b = false := by rw [HR.out, HFN.out, HPT.out, HFF.out, hff]; rfl
              have HRES := Lib.hid hres
              clear hres hff
              go_wp2
              go_ret
              exact ⟨ret_bool (by rw [HRES.out]), HB6.out⟩
            | true =>
              go_wp2
              exact ⟨⟨j + 1, by have := HJ.out; omega, by go_num, Lib.hid (HYES.out (by trivial)), HB5⟩, by have := HJ.out; simp [intOf]; omega⟩
          · have hlt : ¬ (j : Int) < m := by omega
            have hjm : j = m := by omega
            subst hjm
            obtain ⟨d, hd⟩ : ∃ d, a.funs.getD j ty0 = d := ⟨_, rfl⟩
            obtain ⟨e, he⟩ : ∃ d, b.funs.getD j ty0 = d := ⟨_, rfl⟩
            obtain ⟨b1, o1, p1, c1', p2, c2', rfl, hb1, e0, e1, e2, e3, e4, e5, hv⟩ := HSaf_4.out.elem (show j < _ by rw [← HNF.out]; have := HMN.out; omega) hd
            obtain ⟨b2, o2, r1, d1', r2, d2', rfl, hb2, f0, f1, f2, f3, f4, f5, hu⟩ := HSbf_4.out.elem (show j < _ by rw [← HMF.out]; have := HMN.out; omega) he
            have hsa := HFA.out j (by have := HMN.out; omega)
            have hsb := HFB.out j (by have := HMN.out; omega)
            rw [hd] at hsa
            rw [he] at hsb
            obtain ⟨q1, hq1⟩ : ∃ q, q = d.pairs.length := ⟨_, rfl⟩
            obtain ⟨q2, hq2⟩ : ∃ q, q = d.funs.length := ⟨_, rfl⟩
            obtain ⟨s1, hs1⟩ : ∃ q, q = e.pairs.length := ⟨_, rfl⟩
            obtain ⟨s2, hs2⟩ : ∃ q, q = e.funs.length := ⟨_, rfl⟩
            rw [← hq1] at e3 hv
            rw [← hq2] at e5 hv
            rw [← hs1] at f3 hu
            rw [← hs2] at f5 hu
            have C := HI.out d e _ _ wr.drew (by have := HSZ.out; omega) hsa.2 hsb.2 (hv.below (Below.refl _ _).drew) (hu.below (Below.refl _ _).drew)
            obtain ⟨z, hz⟩ : ∃ z, z = subF n d e := ⟨_, rfl⟩
            rw [← hz] at C
            have hres : subF (n + 1) a b = z := by rw [HR.out, HFN.out, HPT.out, HFF.out, HAL.out, hd, he, ← hz]; cases z <;> rfl
            have HRES := Lib.hid hres
            have HC3 := Lib.hid C
            clear hres hd he hv hu C hz hq1 hq2 hs1 hs2 hsa hsb hgo hj HAL
            go_wp2_with fail
            go_still_tail 10, (by kernel_rfl)
            change wpList _ _ _ _ _ wr.drew
            go_wp2_with fail
            refine HC3.out.mono ?_
            rintro e w5 ⟨rfl, hbw⟩
            have HB6 := Lib.hid (HBW_4.out.trans ((Below.refl _ _).drew.trans (hbw.mono HBW_4.out.size)))
            clear hbw
            go_wp2
            go_ret
            exact ⟨ret_bool (by rw [HRES.out]), HB6.out⟩

theorem sub_any : ∀ n : Nat, SubOK n := by
  intro n
  induction n with
  | zero => intro a b va vb w h; have := szT_pos a; omega
  | succ n ih => exact sub_succ n ih
end Go.Proofs.YtdjhjapfmbcmlaaDoor

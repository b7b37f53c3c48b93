import Derived.Test.YtgjkobkcmgliaaaTyC
import Derived.StillTailTactics
namespace Go.Proofs.Ytgjkobkcmgliaaa
open Go.RowKit

def SameOK (n : Nat) : Prop := ∀ (x y : Ty) (vx vy : Value) (w : World), szT x ≤ n → TyV w vx x → TyV w vy y →
    Calls Try.prog 23 #[vx, vy] w fun e w' => e = .returned (.bool (sameT x y)) ∧ Below w.heap.size w w'
theorem same_no {x y : Ty} (h : ¬ (x.all = y.all ∧ x.flat = y.flat ∧ x.pair = y.pair ∧ x.fn = y.fn ∧ x.pairs.length = y.pairs.length ∧ x.funs.length = y.funs.length)) : sameT x y = false := by
  cases hs : sameT x y with
  | false => rfl
  | true => rw [sameT_iff] at hs; subst hs; exact absurd ⟨rfl, rfl, rfl, rfl, rfl, rfl⟩ h

set_option maxRecDepth 100000 in
set_option maxHeartbeats 8000000 in
theorem same_succ (n : Nat) (ih : SameOK n) : SameOK (n + 1) := by
  intro x y vx vy w hsz hx hy
  obtain ⟨pa, pc, fa, fc, rfl, hxp, hxf⟩ := hx.form
  obtain ⟨qa, qc, ga, gc, rfl, hyp, hyf⟩ := hy.form
  have hno := @same_no x y
  have hrec := sameT_eq x y
  obtain ⟨xa, hxa⟩ : ∃ a, a = x.all := ⟨_, rfl⟩
  obtain ⟨xf, hxf'⟩ : ∃ a, a = x.flat := ⟨_, rfl⟩
  obtain ⟨xp, hxp'⟩ : ∃ a, a = x.pair := ⟨_, rfl⟩
  obtain ⟨xn, hxn⟩ : ∃ a, a = x.fn := ⟨_, rfl⟩
  obtain ⟨ya, hya⟩ : ∃ a, a = y.all := ⟨_, rfl⟩
  obtain ⟨yf, hyf'⟩ : ∃ a, a = y.flat := ⟨_, rfl⟩
  obtain ⟨yp, hyp'⟩ : ∃ a, a = y.pair := ⟨_, rfl⟩
  obtain ⟨yn, hyn⟩ : ∃ a, a = y.fn := ⟨_, rfl⟩
  obtain ⟨np, hnp⟩ : ∃ n, n = x.pairs.length := ⟨_, rfl⟩
  obtain ⟨nf, hnf⟩ : ∃ n, n = x.funs.length := ⟨_, rfl⟩
  obtain ⟨mp, hmp⟩ : ∃ n, n = y.pairs.length := ⟨_, rfl⟩
  obtain ⟨mf, hmf⟩ : ∃ n, n = y.funs.length := ⟨_, rfl⟩
  rw [← hxa, ← hya, ← hxf', ← hyf', ← hxp', ← hyp', ← hxn, ← hyn] at hno hrec
  rw [← hnp, ← hmp, ← hnf, ← hmf] at hno
  rw [← hnp] at hxp
  rw [← hnf] at hxf
  rw [← hmp] at hyp
  rw [← hmf] at hyf
  have hpl := hxp.len
  have hfl := hxf.len
  rw [← hnp] at hpl
  rw [← hnf] at hfl
  unfold maxLen at hpl hfl
  rw [← hnp, ← hnf, ← hmp, ← hmf, ← hxa, ← hya, ← hxf', ← hyf', ← hxp', ← hyp', ← hxn, ← hyn]
  obtain ⟨W, hW⟩ : ∃ W, W = (w.alloc (.cells #[.bool xa, .int .i64 xf, .int .i64 xp, .slice pa np pc, .int .i64 xn, .slice fa nf fc] 49)).alloc (.cells #[.bool ya, .int .i64 yf, .int .i64 yp, .slice qa mp qc, .int .i64 yn, .slice ga mf gc] 49) := ⟨_, rfl⟩
  obtain ⟨g, hg⟩ : ∃ g, g = w.heap.size := ⟨_, rfl⟩
  have HBX := Lib.hid (show BoxAt W g xa xf xp (.slice pa np pc) xn (.slice fa nf fc) by rw [hW, hg]; exact (BoxAt.made _ _ _ _ _ _ _).keep ((Below.refl _ _).alloc (Nat.le_refl _) _))
  have HBY := Lib.hid (show BoxAt W (g + 1) ya yf yp (.slice qa mp qc) yn (.slice ga mf gc) by rw [hW, hg]; have := BoxAt.made (w.alloc (.cells #[.bool xa, .int .i64 xf, .int .i64 xp, .slice pa np pc, .int .i64 xn, .slice fa nf fc] 49)) ya yf yp (.slice qa mp qc) yn (.slice ga mf gc); simpa using this)
  have HBW := Lib.hid (show Below w.heap.size w W by rw [hW]; exact ((Below.refl _ _).alloc (Nat.le_refl _) _).alloc (by simp) _)
  have HXP := Lib.hid (hxp.under HBW.out)
  have HXF := Lib.hid (hxf.under HBW.out)
  have HYP := Lib.hid (hyp.under HBW.out)
  have HYF := Lib.hid (hyf.under HBW.out)
  have HW := Lib.hid hW
  have HG := Lib.hid hg
  have HXPN := Lib.hid hnp
  have HXFN := Lib.hid hnf
  have HYPN := Lib.hid hmp
  have HYFN := Lib.hid hmf
  have HI := Lib.hid ih
  have HR := Lib.hid hrec
  have HNO := Lib.hid hno
  have HSZ := Lib.hid hsz
  clear hxp hxf hyp hyf hnp hnf hmp hmf hxa hya hxf' hyf' hxp' hyp' hxn hyn hW hg ih hx hy hrec hno hsz
  by_cases c0 : xa = ya
  case neg =>
    have hbad : sameT x y = false := HNO.out (fun h => c0 h.1)
    have HBAD := Lib.hid hbad
    clear hbad
    cases xa <;> cases ya
    · exact absurd rfl c0
    · clear c0
      go_enter Try.func23, Try.ntmps23
      go_wp2
      go_ret
      exact ⟨ret_bool (by rw [HBAD.out]), ((Below.refl _ _).alloc (Nat.le_refl _) _).alloc (by simp) _⟩
    · clear c0
      go_enter Try.func23, Try.ntmps23
      go_wp2
      go_ret
      exact ⟨ret_bool (by rw [HBAD.out]), ((Below.refl _ _).alloc (Nat.le_refl _) _).alloc (by simp) _⟩
    · exact absurd rfl c0
  subst c0
  by_cases c1 : xf = yf
  case neg =>
    have hbad : sameT x y = false := HNO.out (fun h => c1 h.2.1)
    have HBAD := Lib.hid hbad
    clear hbad
    have e1 : (xf != yf) = true := bne_iff_ne.2 c1
    clear c1
    go_enter Try.func23, Try.ntmps23
    go_wp2
    go_ret
    exact ⟨ret_bool (by rw [HBAD.out]), ((Below.refl _ _).alloc (Nat.le_refl _) _).alloc (by simp) _⟩
  subst c1
  by_cases c1 : xp = yp
  case neg =>
    have hbad : sameT x y = false := HNO.out (fun h => c1 h.2.2.1)
    have HBAD := Lib.hid hbad
    clear hbad
    have e1 : (xp != yp) = true := bne_iff_ne.2 c1
    clear c1
    go_enter Try.func23, Try.ntmps23
    go_wp2
    go_ret
    exact ⟨ret_bool (by rw [HBAD.out]), ((Below.refl _ _).alloc (Nat.le_refl _) _).alloc (by simp) _⟩
  subst c1
  by_cases c1 : xn = yn
  case neg =>
    have hbad : sameT x y = false := HNO.out (fun h => c1 h.2.2.2.1)
    have HBAD := Lib.hid hbad
    clear hbad
    have e1 : (xn != yn) = true := bne_iff_ne.2 c1
    clear c1
    go_enter Try.func23, Try.ntmps23
    go_wp2
    go_ret
    exact ⟨ret_bool (by rw [HBAD.out]), ((Below.refl _ _).alloc (Nat.le_refl _) _).alloc (by simp) _⟩
  subst c1
  by_cases c1 : np = mp
  case neg =>
    have hbad : sameT x y = false := HNO.out (fun h => c1 h.2.2.2.2.1)
    have HBAD := Lib.hid hbad
    clear hbad
    have e1 : ((np : Int) != (mp : Int)) = true := by rw [bne_iff_ne]; omega
    clear c1
    go_enter Try.func23, Try.ntmps23
    go_wp2
    go_ret
    exact ⟨ret_bool (by rw [HBAD.out]), ((Below.refl _ _).alloc (Nat.le_refl _) _).alloc (by simp) _⟩
  subst c1
  by_cases c1 : nf = mf
  case neg =>
    have hbad : sameT x y = false := HNO.out (fun h => c1 h.2.2.2.2.2)
    have HBAD := Lib.hid hbad
    clear hbad
    have e1 : ((nf : Int) != (mf : Int)) = true := by rw [bne_iff_ne]; omega
    clear c1
    go_enter Try.func23, Try.ntmps23
    go_wp2
    go_ret
    exact ⟨ret_bool (by rw [HBAD.out]), ((Below.refl _ _).alloc (Nat.le_refl _) _).alloc (by simp) _⟩
  subst c1
  go_enter Try.func23, Try.ntmps23
  go_wp2
  rw [← HG.out, ← HW.out]
  go_loopw [5] (fun i wr => ∃ k : Nat, k ≤ np ∧ i = .int .i64 k ∧ Hid (∀ j, j < k → sameT (x.pairs.getD j ty0) (y.pairs.getD j ty0) = true) ∧ Hid (Below W.heap.size W wr)) (fun i _ => np - (intOf i).toNat)
  case atStart => exact ⟨0, Nat.zero_le _, rfl, Lib.hid (fun j hj => absurd hj (Nat.not_lt_zero _)), Lib.hid (Below.refl _ _)⟩
  case round =>
    obtain ⟨k, hk, rfl, HA, HB⟩ := hrel
    have hcx := (HBX.out.keep HB.out).c3
    have hcy := (HBY.out.keep HB.out).c3
    by_cases hgo : k < np
    · have hkl : k < x.pairs.length := by rw [← HXPN.out]; exact hgo
      have hkm : k < y.pairs.length := by rw [← HYPN.out]; exact hgo
      obtain ⟨d, hd⟩ : ∃ d, x.pairs.getD k ty0 = d := ⟨_, rfl⟩
      obtain ⟨e, he⟩ : ∃ d, y.pairs.getD k ty0 = d := ⟨_, rfl⟩
      obtain ⟨b, off, p1, c1, p2, c2, rfl, hb, e0, e1, e2, e3, e4, e5, hv⟩ := (HXP.out.under HB.out).elem hkl hd
      obtain ⟨b', off', r1, d1, r2, d2, rfl, hb', f0, f1, f2, f3, f4, f5, hu⟩ := (HYP.out.under HB.out).elem hkm he
      have hsd : szT d ≤ n := by have h1 := szT_pair x k hkl; rw [hd] at h1; have := HSZ.out; omega
      have hno : sameT d e = false → sameT x y = false := fun h => by
        cases hs : sameT x y with
        | false => rfl
        | true => rw [sameT_iff] at hs; subst hs; rw [← hd, ← he, (sameT_iff _ _).2 rfl] at h; cases h
      have hyes : sameT d e = true → ∀ j, j < k + 1 → sameT (x.pairs.getD j ty0) (y.pairs.getD j ty0) = true := fun h j hj => by
        by_cases hjk : j < k
        · exact HA.out j hjk
        · obtain rfl : j = k := by omega
          rw [hd, he]; exact h
      obtain ⟨q1, hq1⟩ : ∃ q, q = d.pairs.length := ⟨_, rfl⟩
      obtain ⟨q2, hq2⟩ : ∃ q, q = d.funs.length := ⟨_, rfl⟩
      obtain ⟨s1, hs1⟩ : ∃ q, q = e.pairs.length := ⟨_, rfl⟩
      obtain ⟨s2, hs2⟩ : ∃ q, q = e.funs.length := ⟨_, rfl⟩
      rw [← hq1] at e3 hv
      rw [← hq2] at e5 hv
      rw [← hs1] at f3 hu
      rw [← hs2] at f5 hu
      have C := HI.out d e _ _ wr.drew hsd (hv.below (Below.refl _ _).drew) (hu.below (Below.refl _ _).drew)
      obtain ⟨z, hz⟩ : ∃ z, z = sameT d e := ⟨_, rfl⟩
      rw [← hz] at C hno hyes
      have HC2 := Lib.hid C
      have HYES := Lib.hid hyes
      have HNO2 := Lib.hid hno
      have hlt : (k : Int) < np := by omega
      have HKL := Lib.hid hgo
      clear hd he hv hu C hz hq1 hq2 hs1 hs2 hgo hk hkl hkm hno hyes HA hsd
      go_wp2_with fail
      go_still_tail 10, (by kernel_rfl)
      change wpList _ _ _ _ _ wr.drew
      go_wp2_with fail
      refine HC2.out.mono ?_
      rintro e w2 ⟨rfl, hbw⟩
      have HB2 := Lib.hid (HB.out.trans ((Below.refl _ _).drew.trans (hbw.mono HB.out.size)))
      clear hbw
      cases z with
      | false =>
        have hbad := HNO2.out rfl
        have HBAD := Lib.hid hbad
        clear hbad
        go_wp2
        go_ret
        exact ⟨ret_bool (by rw [HBAD.out]), HBW.out.trans (HB2.out.mono HBW.out.size)⟩
      | true =>
        go_wp2
        exact ⟨⟨k + 1, by have := HKL.out; omega, by go_num, Lib.hid (HYES.out (by trivial)), HB2⟩, by have := HKL.out; simp [intOf]; omega⟩
    · have hend : samesT x.pairs y.pairs = true := by
        rw [samesT_iff]
        exact ⟨by rw [← HXPN.out, ← HYPN.out], fun j hj => HA.out j (by rw [← HXPN.out] at hj; omega)⟩
      have HE1 := Lib.hid hend
      have hlt : ¬ (k : Int) < np := by omega
      clear hend HA hgo hk
      have HB1 := HB
      clear HB
      go_wp2
      go_loopw [6] (fun i wr => ∃ k : Nat, k ≤ nf ∧ i = .int .i64 k ∧ Hid (∀ j, j < k → sameT (x.funs.getD j ty0) (y.funs.getD j ty0) = true) ∧ Hid (Below W.heap.size W wr)) (fun i _ => nf - (intOf i).toNat)
      case atStart => exact ⟨0, Nat.zero_le _, rfl, Lib.hid (fun j hj => absurd hj (Nat.not_lt_zero _)), HB1⟩
      case round =>
        obtain ⟨k, hk, rfl, HA, HB⟩ := hrel
        have hcx := (HBX.out.keep HB.out).c5
        have hcy := (HBY.out.keep HB.out).c5
        by_cases hgo : k < nf
        · have hkl : k < x.funs.length := by rw [← HXFN.out]; exact hgo
          have hkm : k < y.funs.length := by rw [← HYFN.out]; exact hgo
          obtain ⟨d, hd⟩ : ∃ d, x.funs.getD k ty0 = d := ⟨_, rfl⟩
          obtain ⟨e, he⟩ : ∃ d, y.funs.getD k ty0 = d := ⟨_, rfl⟩
          obtain ⟨b, off, p1, c1, p2, c2, rfl, hb, e0, e1, e2, e3, e4, e5, hv⟩ := (HXF.out.under HB.out).elem hkl hd
          obtain ⟨b', off', r1, d1, r2, d2, rfl, hb', f0, f1, f2, f3, f4, f5, hu⟩ := (HYF.out.under HB.out).elem hkm he
          have hsd : szT d ≤ n := by have h1 := szT_fun x k hkl; rw [hd] at h1; have := HSZ.out; omega
          have hno : sameT d e = false → sameT x y = false := fun h => by
            cases hs : sameT x y with
            | false => rfl
            | true => rw [sameT_iff] at hs; subst hs; rw [← hd, ← he, (sameT_iff _ _).2 rfl] at h; cases h
          have hyes : sameT d e = true → ∀ j, j < k + 1 → sameT (x.funs.getD j ty0) (y.funs.getD j ty0) = true := fun h j hj => by
            by_cases hjk : j < k
            · exact HA.out j hjk
            · obtain rfl : j = k := by omega
              rw [hd, he]; exact h
          obtain ⟨q1, hq1⟩ : ∃ q, q = d.pairs.length := ⟨_, rfl⟩
          obtain ⟨q2, hq2⟩ : ∃ q, q = d.funs.length := ⟨_, rfl⟩
          obtain ⟨s1, hs1⟩ : ∃ q, q = e.pairs.length := ⟨_, rfl⟩
          obtain ⟨s2, hs2⟩ : ∃ q, q = e.funs.length := ⟨_, rfl⟩
          rw [← hq1] at e3 hv
          rw [← hq2] at e5 hv
          rw [← hs1] at f3 hu
          rw [← hs2] at f5 hu
          have C := HI.out d e _ _ wr.drew hsd (hv.below (Below.refl _ _).drew) (hu.below (Below.refl _ _).drew)
          obtain ⟨z, hz⟩ : ∃ z, z = sameT d e := ⟨_, rfl⟩
          rw [← hz] at C hno hyes
          have HC2 := Lib.hid C
          have HYES := Lib.hid hyes
          have HNO2 := Lib.hid hno
          have hlt : (k : Int) < nf := by omega
          have HKL := Lib.hid hgo
          clear hd he hv hu C hz hq1 hq2 hs1 hs2 hgo hk hkl hkm hno hyes HA hsd
          go_wp2_with fail
          go_still_tail 10, (by kernel_rfl)
          change wpList _ _ _ _ _ wr.drew
          go_wp2_with fail
          refine HC2.out.mono ?_
          rintro e w2 ⟨rfl, hbw⟩
          have HB2 := Lib.hid (HB.out.trans ((Below.refl _ _).drew.trans (hbw.mono HB.out.size)))
          clear hbw
          cases z with
          | false =>
            have hbad := HNO2.out rfl
            have HBAD := Lib.hid hbad
            clear hbad
            go_wp2
            go_ret
            exact ⟨ret_bool (by rw [HBAD.out]), HBW.out.trans (HB2.out.mono HBW.out.size)⟩
          | true =>
            go_wp2
            exact ⟨⟨k + 1, by have := HKL.out; omega, by go_num, Lib.hid (HYES.out (by trivial)), HB2⟩, by have := HKL.out; simp [intOf]; omega⟩
        · have hend : samesT x.funs y.funs = true := by
            rw [samesT_iff]
            exact ⟨by rw [← HXFN.out, ← HYFN.out], fun j hj => HA.out j (by rw [← HXFN.out] at hj; omega)⟩
          have HE2 := Lib.hid hend
          have hlt : ¬ (k : Int) < nf := by omega
          clear hend HA hgo hk
          go_wp2
          go_ret
          exact ⟨ret_bool (by rw [HR.out, HE1.out, HE2.out]; simp), HBW.out.trans (HB.out.mono HBW.out.size)⟩

theorem same_any (x y : Ty) (vx vy : Value) (w : World) (hx : TyV w vx x) (hy : TyV w vy y) :
    Calls Try.prog 23 #[vx, vy] w fun e w' => e = .returned (.bool (sameT x y)) ∧ Below w.heap.size w w' := by
  have key : ∀ n, SameOK n := by
    intro n
    induction n with
    | zero => intro x y vx vy w h; have := szT_pos x; omega
    | succ n ih => exact same_succ n ih
  exact key _ x y vx vy w (Nat.le_refl _) hx hy
end Go.Proofs.Ytgjkobkcmgliaaa

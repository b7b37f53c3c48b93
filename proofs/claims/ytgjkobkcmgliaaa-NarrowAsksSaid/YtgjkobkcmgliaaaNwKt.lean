import Derived.Test.YtgjkobkcmgliaaaNwK
namespace Go.Proofs.Ytgjkobkcmgliaaa
open Go.RowKit

theorem or64 {f : Nat} (h : f < 64) : f ||| 64 = f + 64 := by
  have key : ∀ f, f < 64 → f ||| 64 = f + 64 := by decide +kernel
  exact key f h
theorem or128 {f : Nat} (h : f < 128) : f ||| 128 = f + 128 := by
  have key : ∀ f, f < 128 → f ||| 128 = f + 128 := by decide +kernel
  exact key f h

set_option maxRecDepth 100000 in
set_option maxHeartbeats 4000000 in
theorem tagclo (g : Nat) (b : Bool) (x : Int) (n m : Int) (w : World) (hv : VarIs w g 3 (.int .i64 n)) (hm : (if b then bits .or .i64 n x else n) = m) :
    Calls Try.prog 55 #[.bool b, .int .i64 x, .pointer (some ⟨g, 0, none⟩)] w fun e w' => e = .returned (.tuple #[]) ∧ VarIs w' g 3 (.int .i64 m) ∧ Stay (· = g) w w' := by
  have c := hv.c
  have f := hv.fr 0
  have HV := Lib.hid hv
  clear hv
  cases b with
  | true =>
    have hm2 : bits .or .i64 n x = m := by simpa using hm
    clear hm
    go_enter Try.func55, Try.ntmps55
    go_wp2
    go_end0
    exact ⟨rfl, HV.out.set _, Stay.set (N := (· = g)) Stay.refl (p := ⟨g, 0, none⟩) rfl _⟩
  | false =>
    obtain rfl : n = m := by simpa using hm
    clear hm
    go_enter Try.func55, Try.ntmps55
    go_wp2
    go_end0
    exact ⟨rfl, HV.out, Stay.refl⟩

set_option maxRecDepth 100000 in
set_option maxHeartbeats 16000000 in
theorem tags_p (t : Ty) (N : Nat → Prop) (v : Value) (w : World) (hok : HdT t) (hv : TyVN N w v t) :
    Calls Try.prog 26 #[v] w fun e w' => e = .returned (.int .i64 (tagsT t)) ∧ Below w.heap.size w w' := by
  obtain ⟨pa, pc, fa, fc, rfl, _, _⟩ := hv.form
  have hh := headH hok
  obtain ⟨pn, hpn⟩ : ∃ n, n = t.pairs.length := ⟨_, rfl⟩
  obtain ⟨fn, hfn⟩ : ∃ n, n = t.funs.length := ⟨_, rfl⟩
  obtain ⟨a, ha⟩ : ∃ a, a = t.all := ⟨_, rfl⟩
  obtain ⟨f, hfl⟩ : ∃ a, a = t.flat := ⟨_, rfl⟩
  obtain ⟨p, hpr⟩ : ∃ a, a = t.pair := ⟨_, rfl⟩
  obtain ⟨k, hkn⟩ : ∃ a, a = t.fn := ⟨_, rfl⟩
  obtain ⟨f0, f1, p0, p1, n0, n1, hall, _⟩ := hh
  have ht : tagsT t = if a then 255 else f + (if p ≠ 0 then 64 else 0) + (if k ≠ 0 then 128 else 0) := by unfold tagsT; rw [ha, hfl, hpr, hkn]
  rw [ht, ← hpn, ← hfn, ← ha, ← hfl, ← hpr, ← hkn]
  rw [← hfl] at f0 f1 hall
  rw [← hpr] at hall
  rw [← hkn] at hall
  rw [← ha] at hall
  clear hpn hfn ha hfl hpr hkn ht p0 p1 n0 n1 hv hok
  obtain ⟨m1, hm1⟩ : ∃ m : Int, m = if a then 255 else 0 := ⟨_, rfl⟩
  obtain ⟨m2, hm2⟩ : ∃ m : Int, m = if a then 255 else f := ⟨_, rfl⟩
  obtain ⟨m3, hm3⟩ : ∃ m : Int, m = if a then 255 else f + (if p ≠ 0 then 64 else 0) := ⟨_, rfl⟩
  obtain ⟨m4, hm4⟩ : ∃ m : Int, m = if a then 255 else f + (if p ≠ 0 then 64 else 0) + (if k ≠ 0 then 128 else 0) := ⟨_, rfl⟩
  rw [← hm4]
  have E1 := Lib.hid (show (if a then bits .or .i64 0 255 else 0) = m1 by rw [hm1]; cases a <;> rfl)
  have E2 := Lib.hid (show (if !a then bits .or .i64 m1 f else m1) = m2 by
    rw [hm1, hm2]
    cases a with
    | true => rfl
    | false =>
      have h := i64_or (x := 0) (y := f.toNat) (by omega) (by omega)
      rw [Nat.zero_or, show ((f.toNat : Nat) : Int) = f by omega] at h
      simpa using h)
  have E3 := Lib.hid (show (if (p != 0) then bits .or .i64 m2 64 else m2) = m3 by
    rw [hm2, hm3]
    cases a with
    | true =>
      have h := hall rfl
      rw [h.2.1]; rfl
    | false =>
      by_cases hp : p = 0
      · simp [hp]
      · have h := i64_or (x := f.toNat) (y := 64) (by omega) (by omega)
        rw [or64 (by omega), show ((f.toNat : Nat) : Int) = f by omega, show ((f.toNat + 64 : Nat) : Int) = f + 64 by omega] at h
        simpa [hp] using h)
  have E4 := Lib.hid (show (if (k != 0) then bits .or .i64 m3 128 else m3) = m4 by
    rw [hm3, hm4]
    cases a with
    | true =>
      have h := hall rfl
      rw [h.2.2]; rfl
    | false =>
      by_cases hk : k = 0
      · simp [hk]
      · obtain ⟨q, hq⟩ : ∃ q : Int, q = f + (if p ≠ 0 then 64 else 0) := ⟨_, rfl⟩
        have hq0 : 0 ≤ q ∧ q < 128 := by rw [hq]; split <;> omega
        have h := i64_or (x := q.toNat) (y := 128) (by omega) (by omega)
        rw [or128 (by omega), show ((q.toNat : Nat) : Int) = q by omega, show ((q.toNat + 128 : Nat) : Int) = q + 128 by omega] at h
        simp only [Bool.false_eq_true, if_false, ← hq]
        simpa [hk] using h)
  obtain ⟨b3, hb3⟩ : ∃ b, b = (p != 0) := ⟨_, rfl⟩
  obtain ⟨b4, hb4⟩ : ∃ b, b = (k != 0) := ⟨_, rfl⟩
  have h3 := hb3.symm
  have h4 := hb4.symm
  rw [← hb3] at E3
  rw [← hb4] at E4
  obtain ⟨W, hW⟩ : ∃ W, W = (w.alloc (.cells #[.bool a, .int .i64 f, .int .i64 p, .slice pa pn pc, .int .i64 k, .slice fa fn fc] 49)).alloc (.cells #[.int .i64 0] 3) := ⟨_, rfl⟩
  have HBX := Lib.hid (show BoxAt W w.heap.size a f p (.slice pa pn pc) k (.slice fa fn fc) by rw [hW]; exact (BoxAt.made _ _ _ _ _ _ _).keep ((Below.refl _ _).alloc (Nat.le_refl _) _))
  have HVI := Lib.hid (show VarIs W (w.heap.size + 1) 3 (.int .i64 0) by rw [hW]; have := VarIs.made (w.alloc (.cells #[.bool a, .int .i64 f, .int .i64 p, .slice pa pn pc, .int .i64 k, .slice fa fn fc] 49)) 3 (.int .i64 0); rw [size_alloc] at this; exact this)
  have HL := Lib.hid (show Below w.heap.size w W by rw [hW]; exact ((Below.refl _ _).alloc (Nat.le_refl _) _).alloc (by simp) _)
  have HW := Lib.hid hW
  clear hW hm1 hm2 hm3 hm4 hall hb3 hb4 f0 f1
  have d0 := HBX.out.c0
  go_enter Try.func26, Try.ntmps26
  go_wp2_with fail
  rw [← HW.out]
  refine (tagclo _ a 255 0 m1 W HVI.out E1.out).mono ?_
  rintro e w1 ⟨rfl, hv1, hs1⟩
  have HV1 := Lib.hid hv1
  have HS1 := Lib.hid hs1
  have HB1 := Lib.hid (HBX.out.stay hs1 (by omega))
  have d0 := HB1.out.c0
  have d1 := HB1.out.c1
  clear hv1 hs1 HW
  go_wp2_with fail
  refine (tagclo _ (!a) f m1 m2 w1 HV1.out E2.out).mono ?_
  rintro e w2 ⟨rfl, hv2, hs2⟩
  have HV2 := Lib.hid hv2
  have HS2 := Lib.hid (HS1.out.trans hs2)
  have HB2 := Lib.hid (HB1.out.stay hs2 (by omega))
  have d2 := HB2.out.c2
  clear hv2 hs2 d0 d1
  go_wp2_with fail
  refine (tagclo _ b3 64 m2 m3 w2 HV2.out E3.out).mono ?_
  rintro e w3 ⟨rfl, hv3, hs3⟩
  have HV3 := Lib.hid hv3
  have HS3 := Lib.hid (HS2.out.trans hs3)
  have HB3 := Lib.hid (HB2.out.stay hs3 (by omega))
  have d4 := HB3.out.c4
  clear hv3 hs3 d2
  go_wp2_with fail
  refine (tagclo _ b4 128 m3 m4 w3 HV3.out E4.out).mono ?_
  rintro e w4 ⟨rfl, hv4, hs4⟩
  have HS4 := Lib.hid (HS3.out.trans hs4)
  have c4 := hv4.c
  clear hv4 hs4 d4
  go_wp2
  go_ret
  exact ⟨rfl, (HL.out.trans (HS4.out.below (B := w.heap.size) (by have := HL.out.size; omega) (fun k hk => by omega)))⟩

set_option maxRecDepth 100000 in
set_option maxHeartbeats 8000000 in
theorem reftags_p (t : Ty) (N : Nat → Prop) (v : Value) (w : World) (hok : HdT t) (hv : TyVN N w v t) :
    Calls Try.prog 27 #[v] w fun e w' => e = .returned (.int .i64 (tagsT t)) ∧ Below w.heap.size w w' := by
  obtain ⟨pa, pc, fa, fc, rfl, _, _⟩ := hv.form
  obtain ⟨f0, f1, _⟩ := headH hok
  obtain ⟨pn, hpn⟩ : ∃ n, n = t.pairs.length := ⟨_, rfl⟩
  obtain ⟨fn, hfn⟩ : ∃ n, n = t.funs.length := ⟨_, rfl⟩
  obtain ⟨a, ha⟩ : ∃ a, a = t.all := ⟨_, rfl⟩
  obtain ⟨f, hfl⟩ : ∃ a, a = t.flat := ⟨_, rfl⟩
  obtain ⟨p, hpr⟩ : ∃ a, a = t.pair := ⟨_, rfl⟩
  obtain ⟨k, hkn⟩ : ∃ a, a = t.fn := ⟨_, rfl⟩
  have ht : tagsT t = if a then 255 else f + (if p ≠ 0 then 64 else 0) + (if k ≠ 0 then 128 else 0) := by unfold tagsT; rw [ha, hfl, hpr, hkn]
  rw [ht, ← hpn, ← hfn, ← ha, ← hfl, ← hpr, ← hkn]
  rw [← hfl] at f0 f1
  clear hpn hfn ha hfl hpr hkn ht hv hok
  have hb : ∀ o, Below w.heap.size w (w.alloc o) := fun o => (Below.refl _ _).alloc (Nat.le_refl _) o
  obtain ⟨m, hm⟩ : ∃ m : Int, m = if a then 255 else f + (if p ≠ 0 then 64 else 0) + (if k ≠ 0 then 128 else 0) := ⟨_, rfl⟩
  rw [← hm]
  have HM := Lib.hid hm
  have HB := Lib.hid hb
  clear hm hb
  cases a with
  | true =>
    go_enter Try.func27, Try.ntmps27
    go_wp2
    go_ret
    exact ⟨reti (by have h := HM.out; simpa using h.symm), HB.out _⟩
  | false =>
    by_cases hp : p = 0
    · have kp : (p != 0) = false := by simp [hp]
      by_cases hk : k = 0
      · have kk : (k != 0) = false := by simp [hk]
        have HX := Lib.hid (show m = f by have h := HM.out; simpa [hp, hk] using h)
        clear hp hk
        go_enter Try.func27, Try.ntmps27
        go_wp2
        go_ret
        exact ⟨reti HX.out.symm, HB.out _⟩
      · have kk : (k != 0) = true := by simp [hk]
        have HX := Lib.hid (show m = f + 128 by have h := HM.out; simpa [hp, hk] using h)
        clear hp hk
        go_enter Try.func27, Try.ntmps27
        go_wp2
        go_ret
        exact ⟨reti HX.out.symm, HB.out _⟩
    · have kp : (p != 0) = true := by simp [hp]
      by_cases hk : k = 0
      · have kk : (k != 0) = false := by simp [hk]
        have HX := Lib.hid (show m = f + 64 by have h := HM.out; simpa [hp, hk] using h)
        clear hp hk
        go_enter Try.func27, Try.ntmps27
        go_wp2
        go_ret
        exact ⟨reti HX.out.symm, HB.out _⟩
      · have kk : (k != 0) = true := by simp [hk]
        have HX := Lib.hid (show m = f + 64 + 128 by have h := HM.out; simpa [hp, hk] using h)
        clear hp hk
        go_enter Try.func27, Try.ntmps27
        go_wp2
        go_ret
        exact ⟨reti HX.out.symm, HB.out _⟩
end Go.Proofs.Ytgjkobkcmgliaaa

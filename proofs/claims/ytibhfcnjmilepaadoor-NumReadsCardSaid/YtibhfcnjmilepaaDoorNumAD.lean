import Derived.Test.YtibhfcnjmilepaaDoorNumAC
namespace Go.Proofs.YtibhfcnjmilepaaDoor
open Go.RowKit

theorem Rd.u32s {g : Nat} {w : World} {v : Value} {l : List Nat} (h : Rd g w v l) : U32s w v l := by
  obtain ⟨a, c, rfl, h⟩ := h
  by_cases h0 : l.length = 0
  · exact .inl ⟨List.length_eq_zero_iff.1 h0, a, c, by rw [h0]⟩
  · obtain ⟨b, off, rfl, _, hb, _⟩ := h 0 (by omega)
    refine .inr ⟨b, off, c, rfl, hb, fun j hj => ?_⟩
    obtain ⟨b', off', e, _, _, hc⟩ := h j hj
    cases e
    exact hc
theorem Bk.u32 {w : World} {h : Nat} {A l C : List Nat} {off n cap : Nat} (hb : Bk w h (A ++ l ++ C)) (ho : off = A.length) (hn : n = l.length) : U32s w (.slice (some ⟨h, off, none⟩) n cap) l :=
  Rd.u32s (hb.rd (g := h + 1) ho hn (by omega))
def NextPost (g : Nat) (A C : List Nat) (n x v : Nat) (w : World) (e : Ending) (w' : World) : Prop :=
  ∃ l', e = .returned (.int .u32 (x / v : Nat)) ∧ l'.length = n ∧ okB l' ∧ valB l' = x % v ∧ Bk w' g (A ++ l' ++ C) ∧ Keep g w w'
theorem div_mod_sub (x v : Nat) : x - x / v * v = x % v := by
  have := Nat.mod_add_div x v
  rw [Nat.mul_comm v] at this
  omega

set_option maxRecDepth 100000 in
set_option maxHeartbeats 4000000 in
theorem pnext_any (m s f u0 u1 u2 : Nat) (dl xl X D : List Nat) (hD : D = dl ++ [s, f]) (hX : X = xl ++ [u0, u1, u2]) (hm : m = dl.length) (hm2 : m = xl.length) (hm6 : m ≤ 900000) (hoD : okB D) (hoX : okB X) (hf : bigB ≤ 2 * f) (hlt : valB X < bigB * valB D)
    (g off n cap : Nat) (A C : List Nat) (hoff : off = A.length) (hn : n = X.length) (vd : Value) (w : World) (hk : Bk w g (A ++ X ++ C)) (hd : Rd g w vd D) :
    Calls Tryd.prog 66 #[.slice (some ⟨g, off, none⟩) n cap, vd] w (NextPost g A C n (valB X) (valB D) w) := by
  have hXl : X.length = m + 3 := by rw [hX]; simp; omega
  have hDl : D.length = m + 2 := by rw [hD]; simp; omega
  have GS := pguess_any m s f u0 u1 u2 dl xl X D hD hX hm hm2 (by omega) hoD hoX hf hlt _ vd w (hk.u32 (cap := cap) hoff hn) hd.u32s
  have hxP : valB X < bigB ^ n := by rw [hn]; exact valB_lt X hoX
  have hdP : valB D < bigB ^ n := Nat.lt_of_lt_of_le (valB_lt D hoD) (Nat.pow_le_pow_right (by rw [bigB_eq]; omega) (by omega))
  have HGS := Lib.hid GS
  have HK := Lib.hid hk
  have HD := Lib.hid hd
  have HOD := Lib.hid hoD
  have HOX := Lib.hid hoX
  have HN := Lib.hid hn
  have HO := Lib.hid hoff
  have HDL := Lib.hid hDl
  have hn6 : n ≤ 1000000 := by omega
  have hdn : D.length ≤ n := by omega
  have HDN := Lib.hid hdn
  obtain ⟨x, hx⟩ : ∃ x, x = valB X := ⟨_, rfl⟩
  obtain ⟨v, hv⟩ : ∃ v, v = valB D := ⟨_, rfl⟩
  have HX := Lib.hid hx
  have HV := Lib.hid hv
  rw [← hx] at hxP HGS ⊢
  rw [← hv] at hdP HGS ⊢
  have HXP := Lib.hid hxP
  have HDP := Lib.hid hdP
  clear GS hk hd hoD hoX hn hoff hXl hDl hX hD hm hm2 hlt hf hdn hx hv hxP hdP
  go_enter Tryd.func66, Tryd.ntmps66
  go_wp2_with fail
  refine HGS.out.mono ?_
  rintro e w1 ⟨q, rfl, q1, q2, qB, v0, k, rfl⟩
  have TK := takeFrom_any g off n cap q A X C D HO.out HN.out HOD.out HOX.out HDN.out hn6 qB vd (w.drewN k) (HK.out.drewN k) (HD.out.keep ((Keep.refl _ _).drewN k))
  rw [← HX.out, ← HV.out] at TK
  have HTK := Lib.hid TK
  have Q1 := Lib.hid q1
  have Q2 := Lib.hid q2
  have V0 := Lib.hid v0
  have HKP0 := Lib.hid ((Keep.refl g w).drewN k)
  have qI : (q : Int) ≤ 1000000000 := by have := bigB_eq; omega
  clear TK q1 q2 qB v0
  obtain ⟨w1, hw1⟩ : ∃ w1, w1 = w.drewN k := ⟨_, rfl⟩
  rw [← hw1] at HTK HKP0 ⊢
  clear hw1
  go_wp2_with fail
  refine HTK.out.mono ?_
  rintro e w2 ⟨l1, o, rfl, hl1, hok1, hv1, hbk1, hk1⟩
  have hlt1 := valB_lt l1 hok1
  rw [hl1] at hlt1
  have ho := owed_iff hv1 HXP.out hlt1
  by_cases h0 : 0 < o
  · have hqx : x < q * v := by rw [← ho]; exact h0
    have hdec : decide (0 < o) = true := decide_eq_true h0
    rw [hdec]
    have hQ : q = x / v + 1 := by
      have : ¬ q ≤ x / v := by
        intro hle
        have h1 := Nat.mul_le_mul_right v hle
        exact absurd (Nat.le_trans h1 (Nat.div_mul_le_self x v)) (Nat.not_le.2 hqx)
      have := Q2.out
      omega
    have AT := addTo_any g off n cap A l1 C D HO.out hl1.symm HOD.out hok1 HDN.out hn6 vd w2 hbk1 ((HD.out.keep HKP0.out).keep hk1)
    have HAT := Lib.hid AT
    have HKP := Lib.hid (HKP0.out.trans hk1)
    have HV1 := Lib.hid hv1
    obtain ⟨Q, hQQ⟩ : ∃ Q, Q = x / v := ⟨_, rfl⟩
    rw [← hQQ] at hQ
    have HQ := Lib.hid hQ
    have q0 : (1 : Int) ≤ q := by omega
    have qq : (q : Int) - 1 = (Q : Int) := by omega
    have HQQ := Lib.hid hQQ
    have QI : (Q : Int) < 1000000000 := by omega
    have Q0 : (0 : Int) ≤ Q := Int.natCast_nonneg _
    clear AT hv1 hbk1 hk1 hok1 hlt1 ho h0 hqx hdec hQ hQQ
    go_wp2_with fail
    refine HAT.out.mono ?_
    rintro e w3 ⟨rfl, ⟨l2, c, hl2, hok2, hv2, hbk2⟩, hk2⟩
    have hv1 := HV1.out
    rw [HQ.out] at hv1
    rw [← HV.out] at hv2
    have hlt2 := valB_lt l2 hok2
    rw [hl2] at hlt2
    have hmm : x - Q * v = x % v := by rw [HQQ.out]; exact div_mod_sub x v
    have hres := back_one hv1 hv2 hlt2 (by rw [HQQ.out]; exact Nat.div_mul_le_self _ _) (by rw [hmm]; exact Nat.lt_of_lt_of_le (Nat.mod_lt _ V0.out) (Nat.le_of_lt HDP.out))
    rw [hmm] at hres
    have HRES := Lib.hid hres
    have HKP2 := Lib.hid (HKP.out.trans hk2)
    have HBK2 := Lib.hid hbk2
    have HOK2 := Lib.hid hok2
    clear hv1 hv2 hlt2 hmm hres hk2 hbk2 hok2
    go_wp2
    go_ret
    exact ⟨l2, by rw [← HQQ.out]; rfl, hl2, HOK2.out, HRES.out, HBK2.out, HKP2.out⟩
  · have hdec : decide (0 < o) = false := decide_eq_false h0
    have o0 : o = 0 := by omega
    rw [hdec]
    rw [o0, Nat.mul_zero, Nat.add_zero] at hv1
    have hQ : q = x / v := by
      have : q ≤ x / v := by rw [Nat.le_div_iff_mul_le V0.out]; omega
      have := Q1.out
      omega
    have hres : valB l1 = x % v := by
      have := div_mod_sub x v
      rw [← hQ] at this
      omega
    have HRES := Lib.hid hres
    have HQ := Lib.hid hQ
    have HKP := Lib.hid (HKP0.out.trans hk1)
    have HBK := Lib.hid hbk1
    have HOK := Lib.hid hok1
    clear hres hQ hv1 hk1 hbk1 hok1 hlt1 ho h0 hdec o0
    go_wp2
    go_ret
    exact ⟨l1, by rw [← HQ.out]; rfl, hl1, HOK.out, HRES.out, HBK.out, HKP.out⟩
end Go.Proofs.YtibhfcnjmilepaaDoor

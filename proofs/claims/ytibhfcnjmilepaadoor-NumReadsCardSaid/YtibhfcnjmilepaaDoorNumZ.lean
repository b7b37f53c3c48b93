import Derived.Test.YtibhfcnjmilepaaDoorNumY
namespace Go.Proofs.YtibhfcnjmilepaaDoor
open Go.RowKit

theorem less_fits {x y o P v : Nat} (h : x + P * o = v + 1 * y) (hv : v < P) (hy : y ≤ x) : v = x - y := by
  rcases o with _ | o
  · rw [Nat.mul_zero] at h; omega
  · exfalso
    have h1 : P ≤ P * (o + 1) := Nat.le_mul_of_pos_right _ (by omega)
    omega
theorem digB_ne {x : Nat} (h : 0 < x) : digB x ≠ [] := by rw [digB_pos h]; simp

set_option maxRecDepth 100000 in
set_option maxHeartbeats 4000000 in
theorem pdiff_any (x y : Nat) (hx : (digB x).length ≤ 10000) (h0 : 0 < x) (hyx : y ≤ x) (va vb : Value) (w : World) (ha : U32s w va (digB x)) (hb : U32s w vb (digB y)) :
    Calls Tryd.prog 45 #[va, vb] w (DigPost (x - y) w) := by
  have CP := pcopied_any va (digB x) (by omega) w ha
  have HCP := Lib.hid CP
  have HA := Lib.hid ha
  have HB := Lib.hid hb
  clear CP ha hb
  go_enter Tryd.func45, Tryd.ntmps45
  go_wp2_with fail
  refine HCP.out.mono ?_
  rintro e w1 ⟨⟨v1, rfl, hc⟩, hb1⟩
  rcases hc with ⟨h, _⟩ | ⟨g, rfl, hg, hglt, hbk⟩
  · exact absurd h (digB_ne h0)
  obtain ⟨n, hn⟩ : ∃ n, n = (digB x).length := ⟨_, rfl⟩
  rw [← hn]
  have hyl : (digB y).length ≤ n := digB_len.2 (Nat.lt_of_le_of_lt hyx (by rw [hn]; exact digB_len.1 (Nat.le_refl _)))
  have TK := takeFrom_any g 0 n n 1 [] (digB x) [] (digB y) rfl hn (digB_ok _) (digB_ok _) hyl (by omega) (by rw [bigB_eq]; omega) vb w1 (by rw [List.nil_append, List.append_nil]; exact hbk) ((Rd.of HB.out hg).below hb1)
  rw [valB_digB, valB_digB] at TK
  have HTK := Lib.hid TK
  have HB1 := Lib.hid hb1
  have HN := Lib.hid hn
  clear hbk TK hb1 hn hyl
  go_wp2_with fail
  refine HTK.out.mono ?_
  rintro e w2 ⟨l', o, rfl, hl', hok', hv', hbk', hk2⟩
  rw [List.nil_append, List.append_nil] at hbk'
  have hlt := valB_lt l' hok'
  rw [hl'] at hlt
  have hv := less_fits hv' hlt hyx
  have TR := trim_dig g n n l' hl'.symm (Nat.le_refl _) (by have := HN.out; omega) hok' w2 hbk'
  rw [hv] at TR
  have HTR := Lib.hid TR
  have HB2 := Lib.hid (HB1.out.trans (hk2.below hg))
  clear hbk' hlt hv TR hk2 hl' hok' hv'
  go_wp2_with fail
  refine HTR.out.mono ?_
  rintro e w3 ⟨⟨v, rfl, hu⟩, hb3, _⟩
  have HU := Lib.hid hu
  have HB3 := Lib.hid (HB2.out.trans (hb3.mono (HB2.out.size)))
  clear hu hb3
  go_wp2
  go_ret
  exact ⟨⟨v, rfl, HU.out⟩, HB3.out⟩

/-- what 'times' hands back -/
def RowPost (n m : Nat) (w : World) (e : Ending) (w' : World) : Prop := ∃ g l, e = .returned (.slice (some ⟨g, 0, none⟩) m m) ∧ w.heap.size ≤ g ∧ g < w'.heap.size ∧ l.length = m ∧ okB l ∧ valB l = n ∧ Bk w' g l ∧ Below w.heap.size w w'

set_option maxRecDepth 100000 in
set_option maxHeartbeats 4000000 in
theorem ptimes_any (x f n : Nat) (hn : n = (digB x).length) (hx : n ≤ 10000) (hf : f < bigB) (va : Value) (w : World) (ha : U32s w va (digB x)) :
    Calls Tryd.prog 65 #[va, .int .u32 f] w (RowPost (x * f) (n + 1) w) := by
  obtain ⟨pa, ca, rfl⟩ := ha.val
  rw [← hn] at ha ⊢
  have MK := mk_any (n + 1) (by omega) w
  rw [show ((n + 1 : Nat) : Int) = (n : Int) + 1 by omega] at MK
  obtain ⟨W, hW⟩ : ∃ W, W = w.alloc (.cells ((List.replicate (n + 1) 0).map u32V).toArray 40) := ⟨_, rfl⟩
  rw [← hW] at MK
  have hBW : Below w.heap.size w W := by rw [hW]; exact (Below.refl _ _).alloc (Nat.le_refl _) _
  have hbk : Bk W w.heap.size (List.replicate (n + 1) 0) := by rw [hW]; exact Bk.made _
  have hz : w.heap.size < W.heap.size := by rw [hW]; simp
  have AT := addTimes_any w.heap.size 0 (n + 1) n (n + 1) f 0 [] (List.replicate n 0) [] (digB x) rfl hn (by simp) (by omega) (digB_ok _) (okB_zeros _) (by omega) hf (.slice pa n ca) W (by rw [List.nil_append, ← List.replicate_succ']; exact hbk) ((Rd.of ha (Nat.le_refl _)).below hBW)
  rw [valB_zeros, valB_digB, Nat.zero_add] at AT
  have HAT := Lib.hid AT
  have HBW := Lib.hid hBW
  clear ha hn hW hBW hbk AT
  go_enter Tryd.func65, Tryd.ntmps65
  go_wp2_with fail
  refine HAT.out.mono ?_
  rintro e w1 ⟨l', rfl, hl', hok', hv', hbk', hk1⟩
  rw [List.nil_append, List.append_nil] at hbk'
  have HBK := Lib.hid hbk'
  have HB1 := Lib.hid (HBW.out.trans (hk1.below (Nat.le_refl _)))
  have HOK := Lib.hid hok'
  have HV := Lib.hid hv'
  have hz1 : w.heap.size < w1.heap.size := by rw [hk1.size]; exact hz
  clear hbk' hk1 hok' hv'
  go_wp2
  go_ret
  exact ⟨w.heap.size, l', rfl, Nat.le_refl _, hz1, hl', HOK.out, by rw [HV.out, Nat.mul_comm], HBK.out, HB1.out⟩
end Go.Proofs.YtibhfcnjmilepaaDoor

import Derived.Test.YtibhfcnjmilepaaDoorNumAT
import Derived.Deep.RegionHeld3
namespace Go.Proofs.YtibhfcnjmilepaaDoor
open Go.RowKit

set_option maxRecDepth 100000 in
set_option maxHeartbeats 8000000 in
theorem ring_any (s t u : ByteArray) (w : World) (ht : TabW w) :
    Calls Tryd.prog 5 #[.string s, .string t, .string u] w fun e w' => e = .returned (.bool true) ∧ Below w.heap.size w w' := by
  have HA := Lib.hid (awake_any w ht)
  have HT := Lib.hid ht
  clear ht
  go_enter Tryd.func5, Tryd.ntmps5
  go_wp2_with fail
  refine HA.out.mono ?_
  rintro e w1 ⟨rfl, hb1⟩
  have HT1 := Lib.hid (HT.out.below hb1)
  have H1 := Lib.hid (ptwo_all s t w1)
  have HB1 := Lib.hid hb1
  clear hb1
  go_wp2_with fail
  refine H1.out.mono ?_
  rintro e w2 ⟨⟨b1, s1, l1, c1, b2, s2, l2, c2, ok, rfl, hk⟩, hb2⟩
  obtain ⟨ga, hga⟩ : ∃ ga, ga = w2.heap.size := ⟨_, rfl⟩
  obtain ⟨W2, hW2⟩ : ∃ W2, W2 = (w2.alloc (.cells #[.bool b1, .slice s1 l1 c1] 25)).alloc (.cells #[.bool b2, .slice s2 l2 c2] 25) := ⟨_, rfl⟩
  have HVA := Lib.hid (show VarAt W2 ga b1 s1 l1 c1 by rw [hW2, hga]; exact VarAt.made1 _ _ _ _ _ _)
  have HVB := Lib.hid (show VarAt W2 (ga + 1) b2 s2 l2 c2 by rw [hW2, hga]; exact VarAt.made2 _ _ _ _ _ _)
  have HB2 := Lib.hid (show Below w1.heap.size w1 W2 by rw [hW2]; exact (hb2.alloc hb2.size _).alloc (Nat.le_trans hb2.size (by simp)) _)
  have HK := Lib.hid (show ok = true → ∃ x y, NumIs 15 W2 (.agg #[.bool b1, .slice s1 l1 c1]) x ∧ NumIs 15 W2 (.agg #[.bool b2, .slice s2 l2 c2]) y by
    intro h; obtain ⟨x, y, hx, hy, _⟩ := hk h; rw [hW2]; exact ⟨x, y, (hx.alloc _).alloc _, (hy.alloc _).alloc _⟩)
  have HG := Lib.hid hga
  have HW2 := Lib.hid hW2
  have H2 := Lib.hid (ptwo_all u u W2)
  clear hga hW2 hb2 hk
  go_wp2_with fail
  rw [← HG.out, ← HW2.out]
  refine H2.out.mono ?_
  rintro e w3 ⟨⟨b3, s3, l3, c3, b4, s4, l4, c4, ok2, rfl, hk⟩, hb3⟩
  obtain ⟨gc, hgc⟩ : ∃ gc, gc = w3.heap.size := ⟨_, rfl⟩
  obtain ⟨W3, hW3⟩ : ∃ W3, W3 = (w3.alloc (.cells #[.bool b3, .slice s3 l3 c3] 25)).alloc (.cells #[.bool b4, .slice s4 l4 c4] 25) := ⟨_, rfl⟩
  have HB3 := Lib.hid (show Below W2.heap.size W2 W3 by rw [hW3]; exact (hb3.alloc hb3.size _).alloc (Nat.le_trans hb3.size (by simp)) _)
  have HVC := Lib.hid (show VarAt W3 gc b3 s3 l3 c3 by rw [hW3, hgc]; exact VarAt.made1 _ _ _ _ _ _)
  have HK3 := Lib.hid (show ok2 = true → ∃ x, NumIs 15 W3 (.agg #[.bool b3, .slice s3 l3 c3]) x by
    intro h; obtain ⟨x, y, hx, hy, _⟩ := hk h; rw [hW3]; exact ⟨x, (hx.alloc _).alloc _⟩)
  have HVA3 := Lib.hid (HVA.out.below HB3.out HVA.out.lt)
  have HVB3 := Lib.hid (HVB.out.below HB3.out HVB.out.lt)
  have HBW := Lib.hid ((HB1.out.trans (HB2.out.mono HB1.out.size)).trans (HB3.out.mono (HB1.out.trans (HB2.out.mono HB1.out.size)).size))
  have HGC := Lib.hid hgc
  have HW3 := Lib.hid hW3
  have HT3 := Lib.hid (HT.out.below HBW.out)
  clear hgc hW3 hb3 hk
  cases ok with
  | false =>
    go_wp2
    rw [← HGC.out, ← HW3.out]
    go_ret
    exact ⟨rfl, HBW.out⟩
  | true =>
  cases ok2 with
  | false =>
    go_wp2
    rw [← HGC.out, ← HW3.out]
    go_ret
    exact ⟨rfl, HBW.out⟩
  | true =>
    obtain ⟨x, y, hx, hy⟩ := HK.out rfl
    obtain ⟨z, hz⟩ := HK3.out rfl
    have HNA := Lib.hid (hx.below HB3.out)
    have HNB := Lib.hid (hy.below HB3.out)
    have HNC := Lib.hid hz
    clear hx hy hz HK HK3 H1 H2 HA HT HT1 HVA HVB HW2 HG HB1 HB2 HB3
    go_wp2_with fail
    rw [← HGC.out, ← HW3.out]
    dsimp only [List.append]
    have BC := Lib.hid (show Below W3.heap.size W3 W3.drew from (Below.refl _ _).drew)
    go_region_held3 (fun w' => w'.cell? ⟨ga, 0, none⟩ = some (.bool b1) ∧ w'.cell? ⟨ga, 1, none⟩ = some (.slice s1 l1 c1) ∧ w'.cell? ⟨ga + 1, 0, none⟩ = some (.bool b2) ∧ w'.cell? ⟨ga + 1, 1, none⟩ = some (.slice s2 l2 c2) ∧ w'.cell? ⟨gc, 0, none⟩ = some (.bool b3) ∧ w'.cell? ⟨gc, 1, none⟩ = some (.slice s3 l3 c3))
      (exact ⟨(HVA3.out.below BC.out HVA3.out.lt).c0, (HVA3.out.below BC.out HVA3.out.lt).c1, (HVB3.out.below BC.out HVB3.out.lt).c0, (HVB3.out.below BC.out HVB3.out.lt).c1, (HVC.out.below BC.out HVC.out.lt).c0, (HVC.out.below BC.out HVC.out.lt).c1⟩)
      (first
        | ((have _hb := HB26.out; clear _hb; go_at_call 11; refine (ntextS (K := 31) ⟨#[48]⟩ (by rw [Int.sub_self]; exact text_0) HN26.out (by omega) (HT3.out.below BC.out)).mono ?_; rintro e w127 ⟨rfl, hb⟩
            have HB27 := Lib.hid hb
            replace BC := Lib.hid (BC.out.trans (hb.mono BC.out.size))
            clear hb))
        | ((have _hb := HB25.out; clear _hb; go_at_call 27; refine (nsub (K := 15) (L := 15) (HNA.out.below BC.out) (HNA.out.below BC.out) (by omega) (by omega)).mono ?_; rintro e w126 ⟨⟨b126, s126, l126, c126, rfl, hn⟩, hb⟩
            have HB26 := Lib.hid hb
            have HN26 := Lib.hid hn
            replace BC := Lib.hid (BC.out.trans (hb.mono BC.out.size))
            clear hb hn))
        | ((have _hb := HB24.out; clear _hb; go_at_call 31; refine (ncmp_eq (K := 47) (L := 15) HN24.out (HNA.out.below BC.out) (by omega) (by omega) (Int.sub_add_cancel _ _)).mono ?_; rintro e w125 ⟨rfl, hb⟩
            have HB25 := Lib.hid hb
            replace BC := Lib.hid (BC.out.trans (hb.mono BC.out.size))
            clear hb))
        | ((have _hb := HB23.out; clear _hb; go_at_call 25; refine (nadd (K := 31) (L := 15) HN23.out (HNB.out.below BC.out) (by omega) (by omega)).mono ?_; rintro e w124 ⟨⟨b124, s124, l124, c124, rfl, hn⟩, hb⟩
            have HB24 := Lib.hid hb
            have HN24 := Lib.hid hn
            replace BC := Lib.hid (BC.out.trans (hb.mono BC.out.size))
            clear hb hn))
        | ((have _hb := HB22.out; clear _hb; go_at_call 27; refine (nsub (K := 15) (L := 15) (HNA.out.below BC.out) (HNB.out.below BC.out) (by omega) (by omega)).mono ?_; rintro e w123 ⟨⟨b123, s123, l123, c123, rfl, hn⟩, hb⟩
            have HB23 := Lib.hid hb
            have HN23 := Lib.hid hn
            replace BC := Lib.hid (BC.out.trans (hb.mono BC.out.size))
            clear hb hn))
        | ((have _hb := HB21.out; clear _hb; go_at_call 31; refine (ncmp_eq (K := 46) (L := 61) (((HN18.out.below HB19.out).below HB20.out).below HB21.out) HN21.out (by omega) (by omega) (Int.add_mul _ _ _)).mono ?_; rintro e w122 ⟨rfl, hb⟩
            have HB22 := Lib.hid hb
            replace BC := Lib.hid (BC.out.trans (hb.mono BC.out.size))
            clear hb))
        | ((have _hb := HB20.out; clear _hb; go_at_call 25; refine (nadd (K := 30) (L := 30) (HN19.out.below HB20.out) HN20.out (by omega) (by omega)).mono ?_; rintro e w121 ⟨⟨b121, s121, l121, c121, rfl, hn⟩, hb⟩
            have HB21 := Lib.hid hb
            have HN21 := Lib.hid hn
            replace BC := Lib.hid (BC.out.trans (hb.mono BC.out.size))
            clear hb hn))
        | ((have _hb := HB19.out; clear _hb; go_at_call 29; refine (nmul (K := 15) (L := 15) (HNB.out.below BC.out) (HNC.out.below BC.out) (by omega) (by omega)).mono ?_; rintro e w120 ⟨⟨b120, s120, l120, c120, rfl, hn⟩, hb⟩
            have HB20 := Lib.hid hb
            have HN20 := Lib.hid hn
            replace BC := Lib.hid (BC.out.trans (hb.mono BC.out.size))
            clear hb hn))
        | ((have _hb := HB18.out; clear _hb; go_at_call 29; refine (nmul (K := 15) (L := 15) (HNA.out.below BC.out) (HNC.out.below BC.out) (by omega) (by omega)).mono ?_; rintro e w119 ⟨⟨b119, s119, l119, c119, rfl, hn⟩, hb⟩
            have HB19 := Lib.hid hb
            have HN19 := Lib.hid hn
            replace BC := Lib.hid (BC.out.trans (hb.mono BC.out.size))
            clear hb hn))
        | ((have _hb := HB17.out; clear _hb; go_at_call 29; refine (nmul (K := 31) (L := 15) HN17.out (HNC.out.below BC.out) (by omega) (by omega)).mono ?_; rintro e w118 ⟨⟨b118, s118, l118, c118, rfl, hn⟩, hb⟩
            have HB18 := Lib.hid hb
            have HN18 := Lib.hid hn
            replace BC := Lib.hid (BC.out.trans (hb.mono BC.out.size))
            clear hb hn))
        | ((have _hb := HB16.out; clear _hb; go_at_call 25; refine (nadd (K := 15) (L := 15) (HNA.out.below BC.out) (HNB.out.below BC.out) (by omega) (by omega)).mono ?_; rintro e w117 ⟨⟨b117, s117, l117, c117, rfl, hn⟩, hb⟩
            have HB17 := Lib.hid hb
            have HN17 := Lib.hid hn
            replace BC := Lib.hid (BC.out.trans (hb.mono BC.out.size))
            clear hb hn))
        | ((have _hb := HB15.out; clear _hb; go_at_call 31; refine (ncmp_eq (K := 45) (L := 45) ((HN13.out.below HB14.out).below HB15.out) HN15.out (by omega) (by omega) (Int.mul_assoc _ _ _)).mono ?_; rintro e w116 ⟨rfl, hb⟩
            have HB16 := Lib.hid hb
            replace BC := Lib.hid (BC.out.trans (hb.mono BC.out.size))
            clear hb))
        | ((have _hb := HB14.out; clear _hb; go_at_call 29; refine (nmul (K := 15) (L := 30) (HNA.out.below BC.out) HN14.out (by omega) (by omega)).mono ?_; rintro e w115 ⟨⟨b115, s115, l115, c115, rfl, hn⟩, hb⟩
            have HB15 := Lib.hid hb
            have HN15 := Lib.hid hn
            replace BC := Lib.hid (BC.out.trans (hb.mono BC.out.size))
            clear hb hn))
        | ((have _hb := HB13.out; clear _hb; go_at_call 29; refine (nmul (K := 15) (L := 15) (HNB.out.below BC.out) (HNC.out.below BC.out) (by omega) (by omega)).mono ?_; rintro e w114 ⟨⟨b114, s114, l114, c114, rfl, hn⟩, hb⟩
            have HB14 := Lib.hid hb
            have HN14 := Lib.hid hn
            replace BC := Lib.hid (BC.out.trans (hb.mono BC.out.size))
            clear hb hn))
        | ((have _hb := HB12.out; clear _hb; go_at_call 29; refine (nmul (K := 30) (L := 15) HN12.out (HNC.out.below BC.out) (by omega) (by omega)).mono ?_; rintro e w113 ⟨⟨b113, s113, l113, c113, rfl, hn⟩, hb⟩
            have HB13 := Lib.hid hb
            have HN13 := Lib.hid hn
            replace BC := Lib.hid (BC.out.trans (hb.mono BC.out.size))
            clear hb hn))
        | ((have _hb := HB11.out; clear _hb; go_at_call 29; refine (nmul (K := 15) (L := 15) (HNA.out.below BC.out) (HNB.out.below BC.out) (by omega) (by omega)).mono ?_; rintro e w112 ⟨⟨b112, s112, l112, c112, rfl, hn⟩, hb⟩
            have HB12 := Lib.hid hb
            have HN12 := Lib.hid hn
            replace BC := Lib.hid (BC.out.trans (hb.mono BC.out.size))
            clear hb hn))
        | ((have _hb := HB10.out; clear _hb; go_at_call 31; refine (ncmp_eq (K := 30) (L := 30) (HN9.out.below HB10.out) HN10.out (by omega) (by omega) (Int.mul_comm _ _)).mono ?_; rintro e w111 ⟨rfl, hb⟩
            have HB11 := Lib.hid hb
            replace BC := Lib.hid (BC.out.trans (hb.mono BC.out.size))
            clear hb))
        | ((have _hb := HB9.out; clear _hb; go_at_call 29; refine (nmul (K := 15) (L := 15) (HNB.out.below BC.out) (HNA.out.below BC.out) (by omega) (by omega)).mono ?_; rintro e w110 ⟨⟨b110, s110, l110, c110, rfl, hn⟩, hb⟩
            have HB10 := Lib.hid hb
            have HN10 := Lib.hid hn
            replace BC := Lib.hid (BC.out.trans (hb.mono BC.out.size))
            clear hb hn))
        | ((have _hb := HB8.out; clear _hb; go_at_call 29; refine (nmul (K := 15) (L := 15) (HNA.out.below BC.out) (HNB.out.below BC.out) (by omega) (by omega)).mono ?_; rintro e w109 ⟨⟨b109, s109, l109, c109, rfl, hn⟩, hb⟩
            have HB9 := Lib.hid hb
            have HN9 := Lib.hid hn
            replace BC := Lib.hid (BC.out.trans (hb.mono BC.out.size))
            clear hb hn))
        | ((have _hb := HB7.out; clear _hb; go_at_call 31; refine (ncmp_eq (K := 47) (L := 47) ((HN5.out.below HB6.out).below HB7.out) HN7.out (by omega) (by omega) (Int.add_assoc _ _ _)).mono ?_; rintro e w108 ⟨rfl, hb⟩
            have HB8 := Lib.hid hb
            replace BC := Lib.hid (BC.out.trans (hb.mono BC.out.size))
            clear hb))
        | ((have _hb := HB6.out; clear _hb; go_at_call 25; refine (nadd (K := 15) (L := 31) (HNA.out.below BC.out) HN6.out (by omega) (by omega)).mono ?_; rintro e w107 ⟨⟨b107, s107, l107, c107, rfl, hn⟩, hb⟩
            have HB7 := Lib.hid hb
            have HN7 := Lib.hid hn
            replace BC := Lib.hid (BC.out.trans (hb.mono BC.out.size))
            clear hb hn))
        | ((have _hb := HB5.out; clear _hb; go_at_call 25; refine (nadd (K := 15) (L := 15) (HNB.out.below BC.out) (HNC.out.below BC.out) (by omega) (by omega)).mono ?_; rintro e w106 ⟨⟨b106, s106, l106, c106, rfl, hn⟩, hb⟩
            have HB6 := Lib.hid hb
            have HN6 := Lib.hid hn
            replace BC := Lib.hid (BC.out.trans (hb.mono BC.out.size))
            clear hb hn))
        | ((have _hb := HB4.out; clear _hb; go_at_call 25; refine (nadd (K := 31) (L := 15) HN4.out (HNC.out.below BC.out) (by omega) (by omega)).mono ?_; rintro e w105 ⟨⟨b105, s105, l105, c105, rfl, hn⟩, hb⟩
            have HB5 := Lib.hid hb
            have HN5 := Lib.hid hn
            replace BC := Lib.hid (BC.out.trans (hb.mono BC.out.size))
            clear hb hn))
        | ((have _hb := HB3.out; clear _hb; go_at_call 25; refine (nadd (K := 15) (L := 15) (HNA.out.below BC.out) (HNB.out.below BC.out) (by omega) (by omega)).mono ?_; rintro e w104 ⟨⟨b104, s104, l104, c104, rfl, hn⟩, hb⟩
            have HB4 := Lib.hid hb
            have HN4 := Lib.hid hn
            replace BC := Lib.hid (BC.out.trans (hb.mono BC.out.size))
            clear hb hn))
        | ((have _hb := HB2.out; clear _hb; go_at_call 31; refine (ncmp_eq (K := 31) (L := 31) (HN1.out.below HB2.out) HN2.out (by omega) (by omega) (Int.add_comm _ _)).mono ?_; rintro e w103 ⟨rfl, hb⟩
            have HB3 := Lib.hid hb
            replace BC := Lib.hid (BC.out.trans (hb.mono BC.out.size))
            clear hb))
        | ((have _hb := HB1.out; clear _hb; go_at_call 25; refine (nadd (K := 15) (L := 15) (HNB.out.below BC.out) (HNA.out.below BC.out) (by omega) (by omega)).mono ?_; rintro e w102 ⟨⟨b102, s102, l102, c102, rfl, hn⟩, hb⟩
            have HB2 := Lib.hid hb
            have HN2 := Lib.hid hn
            replace BC := Lib.hid (BC.out.trans (hb.mono BC.out.size))
            clear hb hn))
        | ((go_at_call 25; refine (nadd (K := 15) (L := 15) (HNA.out.below BC.out) (HNB.out.below BC.out) (by omega) (by omega)).mono ?_; rintro e w101 ⟨⟨b101, s101, l101, c101, rfl, hn⟩, hb⟩
            have HB1 := Lib.hid hb
            have HN1 := Lib.hid hn
            replace BC := Lib.hid (BC.out.trans (hb.mono BC.out.size))
            clear hb hn)))
    go_wp2
    go_ret
    exact ⟨rfl, HBW.out.trans (BC.out.mono HBW.out.size)⟩
end Go.Proofs.YtibhfcnjmilepaaDoor

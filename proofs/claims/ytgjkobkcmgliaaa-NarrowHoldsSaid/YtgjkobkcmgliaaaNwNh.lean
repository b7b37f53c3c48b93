import Derived.Test.YtgjkobkcmgliaaaNwWi
import Derived.Test.YtgjkobkcmgliaaaNwYe
import Derived.Test.YtgjkobkcmgliaaaNwTl
import Derived.Test.YtgjkobkcmgliaaaNwB
import Derived.Test.YtgjkobkcmgliaaaNwTq
import Derived.Test.YtgjkobkcmgliaaaNwAw
namespace Go.Proofs.Ytgjkobkcmgliaaa
open Go.RowKit

def NhA (k : Nat) (W : World) (l : List (Int × Bool)) (iv : Value) (wr : World) : Prop :=
  ∃ i : Nat, i ≤ k ∧ iv = .int .i64 i ∧ Hid (Below W.heap.size W wr) ∧ Hid (∀ j, j < i → BitOk (l.getD j vl0).1)
def NhB (n : Nat) (W : World) (iv : Value) (wr : World) : Prop :=
  ∃ i : Nat, i ≤ n ∧ iv = .int .i64 i ∧ Hid (Below W.heap.size W wr)
set_option maxRecDepth 100000 in
set_option maxHeartbeats 32000000 in
theorem nholds_p (t : Tst) (l : List (Int × Bool)) (v : Value) (va : Option Addr) (k vc : Nat) (w : World) (hv : TeV w v t) (hk : k = l.length) (hl : VaS w (.slice va k vc) l) : Calls Try.prog 6 #[v, .slice va k vc] w fun e w' => e = .returned (.bool true) ∧ Below w.heap.size w w' := by
  obtain ⟨a, c, rfl, hs⟩ := hv.form
  obtain ⟨W, hW⟩ : ∃ W, W = w.alloc (.cells #[.int .i64 t.op, .int .i64 t.vr, .int .i64 t.tags, .bool t.yes, .slice a t.of.length c] 24) := ⟨_, rfl⟩
  have HX := Lib.hid (show Bx W w.heap.size 24 #[.int .i64 t.op, .int .i64 t.vr, .int .i64 t.tags, .bool t.yes, .slice a t.of.length c] by rw [hW]; exact Bx.made _ _ _)
  have HL := Lib.hid (show Below w.heap.size w W by rw [hW]; exact (Below.refl _ _).alloc (Nat.le_refl _) _)
  have HV := Lib.hid (hv.below HL.out)
  have bk : (k : Int) ≤ 9223372036854775807 := by
    have := hl.len; rw [← hk] at this; unfold maxLen at this; omega
  have HVS := Lib.hid (hl.below HL.out)
  have HK := Lib.hid hk
  have HW := Lib.hid hW
  clear hs hv hW hl hk
  go_enter Try.func6, Try.ntmps6
  go_wp2_with fail
  rw [← HW.out]
  refine (awake_p W).mono ?_
  rintro e w1 ⟨rfl, hb⟩
  replace HX := Lib.hid (HX.out.keep hb)
  replace HV := Lib.hid (HV.out.below hb)
  replace HVS := Lib.hid (HVS.out.below hb)
  replace HL := Lib.hid (HL.out.trans (hb.mono HL.out.size))
  clear hb HW
  have x0 : w1.cell? ⟨w.heap.size, 0, none⟩ = some (.int .i64 t.op) := HX.out.c 0
  have x1 : w1.cell? ⟨w.heap.size, 1, none⟩ = some (.int .i64 t.vr) := HX.out.c 1
  have x2 : w1.cell? ⟨w.heap.size, 2, none⟩ = some (.int .i64 t.tags) := HX.out.c 2
  have x3 : w1.cell? ⟨w.heap.size, 3, none⟩ = some (.bool t.yes) := HX.out.c 3
  have x4 : w1.cell? ⟨w.heap.size, 4, none⟩ = some (.slice a t.of.length c) := HX.out.c 4
  go_wp2_with fail
  refine (light_go 6 (by decide) 6 t _ w1 rfl HV.out).mono ?_
  rintro e w2 ⟨rfl, hb⟩
  replace HX := Lib.hid (HX.out.keep hb)
  replace HV := Lib.hid (HV.out.below hb)
  replace HVS := Lib.hid (HVS.out.below hb)
  replace HL := Lib.hid (HL.out.trans (hb.mono HL.out.size))
  obtain ⟨z, hz⟩ : ∃ z, z = litT 6 t := ⟨_, rfl⟩
  rw [← hz]
  have HZ := Lib.hid hz.symm
  clear hz hb x0 x1 x2 x3 x4
  cases z with
  | false =>
    go_wp2
    refine bodyPost_ret (v := .bool true) ?_ ?_ ?_
    · simp [results, Try.results6, go_sem]
    · rfl
    · exact ⟨rfl, HL.out⟩
  | true =>
    by_cases h8 : k ≤ 8
    · have g8 : ¬ (8 : Int) < (k : Int) := by omega
      go_wp2
      go_loopw [7] (fun iv wr => NhA k w2 l iv wr) (fun iv _ => k - (intOf iv).toNat)
      case atStart => exact ⟨0, Nat.zero_le _, rfl, Lib.hid (Below.refl _ _), Lib.hid fun j h => absurd h (Nat.not_lt_zero _)⟩
      case round =>
        obtain ⟨i, hi1, rfl, HB, HQ⟩ := hrel
        by_cases hlt : i < k
        · have hi0 : (0 : Int) ≤ (i : Int) := Int.natCast_nonneg _
          have hi2 : (i : Int) < (k : Int) := by omega
          have hil : i < l.length := by rw [← HK.out]; exact hlt
          obtain ⟨vb, voff, rfl, vlt, y0, y1⟩ := (HVS.out.below HB.out).elem hil
          obtain ⟨tg, htg⟩ : ∃ tg, (l.getD i vl0).1 = tg := ⟨_, rfl⟩
          rw [htg] at y0
          have HTG := Lib.hid htg
          clear htg y1
          by_cases e0 : tg = 1
          · subst e0
            go_wp2
            refine ⟨⟨i + 1, hlt, by go_num, HB, Lib.hid fun j hj => ?_⟩, by simp [intOf]; omega⟩
            by_cases e : j = i
            · rw [e, HTG.out]; exact (by unfold BitOk; omega)
            · exact HQ.out j (by omega)
          by_cases e1 : tg = 2
          · subst e1
            go_wp2
            refine ⟨⟨i + 1, hlt, by go_num, HB, Lib.hid fun j hj => ?_⟩, by simp [intOf]; omega⟩
            by_cases e : j = i
            · rw [e, HTG.out]; exact (by unfold BitOk; omega)
            · exact HQ.out j (by omega)
          by_cases e2 : tg = 4
          · subst e2
            go_wp2
            refine ⟨⟨i + 1, hlt, by go_num, HB, Lib.hid fun j hj => ?_⟩, by simp [intOf]; omega⟩
            by_cases e : j = i
            · rw [e, HTG.out]; exact (by unfold BitOk; omega)
            · exact HQ.out j (by omega)
          by_cases e3 : tg = 8
          · subst e3
            go_wp2
            refine ⟨⟨i + 1, hlt, by go_num, HB, Lib.hid fun j hj => ?_⟩, by simp [intOf]; omega⟩
            by_cases e : j = i
            · rw [e, HTG.out]; exact (by unfold BitOk; omega)
            · exact HQ.out j (by omega)
          by_cases e4 : tg = 16
          · subst e4
            go_wp2
            refine ⟨⟨i + 1, hlt, by go_num, HB, Lib.hid fun j hj => ?_⟩, by simp [intOf]; omega⟩
            by_cases e : j = i
            · rw [e, HTG.out]; exact (by unfold BitOk; omega)
            · exact HQ.out j (by omega)
          by_cases e5 : tg = 32
          · subst e5
            go_wp2
            refine ⟨⟨i + 1, hlt, by go_num, HB, Lib.hid fun j hj => ?_⟩, by simp [intOf]; omega⟩
            by_cases e : j = i
            · rw [e, HTG.out]; exact (by unfold BitOk; omega)
            · exact HQ.out j (by omega)
          by_cases e6 : tg = 64
          · subst e6
            go_wp2
            refine ⟨⟨i + 1, hlt, by go_num, HB, Lib.hid fun j hj => ?_⟩, by simp [intOf]; omega⟩
            by_cases e : j = i
            · rw [e, HTG.out]; exact (by unfold BitOk; omega)
            · exact HQ.out j (by omega)
          by_cases e7 : tg = 128
          · subst e7
            go_wp2
            refine ⟨⟨i + 1, hlt, by go_num, HB, Lib.hid fun j hj => ?_⟩, by simp [intOf]; omega⟩
            by_cases e : j = i
            · rw [e, HTG.out]; exact (by unfold BitOk; omega)
            · exact HQ.out j (by omega)
          have d0 : (tg != 1) = true := by simp [e0]
          have d1 : (tg != 2) = true := by simp [e1]
          have d2 : (tg != 4) = true := by simp [e2]
          have d3 : (tg != 8) = true := by simp [e3]
          have d4 : (tg != 16) = true := by simp [e4]
          have d5 : (tg != 32) = true := by simp [e5]
          have d6 : (tg != 64) = true := by simp [e6]
          have d7 : (tg != 128) = true := by simp [e7]
          have HB1 := Lib.hid (HL.out.trans (HB.out.mono HL.out.size))
          go_wp2
          refine bodyPost_ret (v := .bool true) ?_ ?_ ?_
          · simp [results, Try.results6, go_sem]
          · rfl
          · exact ⟨rfl, HB1.out⟩
        · have hin : i = k := by omega
          have HBO := Lib.hid (show ∀ x ∈ l, BitOk x.1 from fun x hx => by
            obtain ⟨j, hj, rfl⟩ := List.getElem_of_mem hx
            have := HQ.out j (by rw [hin, HK.out]; exact hj)
            rwa [List.getD_eq_getElem?_getD, List.getElem?_eq_getElem hj] at this)
          have hb := HB.out
          replace HX := Lib.hid (HX.out.keep hb)
          replace HV := Lib.hid (HV.out.below hb)
          replace HVS := Lib.hid (HVS.out.below hb)
          replace HL := Lib.hid (HL.out.trans (hb.mono HL.out.size))
          clear HB HQ hb
          have x0 : wr.cell? ⟨w.heap.size, 0, none⟩ = some (.int .i64 t.op) := HX.out.c 0
          have x1 : wr.cell? ⟨w.heap.size, 1, none⟩ = some (.int .i64 t.vr) := HX.out.c 1
          have x2 : wr.cell? ⟨w.heap.size, 2, none⟩ = some (.int .i64 t.tags) := HX.out.c 2
          have x3 : wr.cell? ⟨w.heap.size, 3, none⟩ = some (.bool t.yes) := HX.out.c 3
          have x4 : wr.cell? ⟨w.heap.size, 4, none⟩ = some (.slice a t.of.length c) := HX.out.c 4
          go_wp2_with fail
          refine (within_go k 6 t _ wr HZ.out HV.out).mono ?_
          rintro e w3 ⟨rfl, hb⟩
          replace HX := Lib.hid (HX.out.keep hb)
          replace HV := Lib.hid (HV.out.below hb)
          replace HVS := Lib.hid (HVS.out.below hb)
          replace HL := Lib.hid (HL.out.trans (hb.mono HL.out.size))
          clear hb x0 x1 x2 x3 x4
          obtain ⟨z2, hz2⟩ : ∃ z, z = winT k 6 t := ⟨_, rfl⟩
          rw [← hz2]
          have HZ2 := Lib.hid hz2.symm
          clear hz2
          cases z2 with
          | false =>
            go_wp2
            refine bodyPost_ret (v := .bool true) ?_ ?_ ?_
            · simp [results, Try.results6, go_sem]
            · rfl
            · exact ⟨rfl, HL.out⟩
          | true =>
            have HOK := Lib.hid (holds_T l HBO.out 6 t HZ.out (by rw [← HK.out]; exact HZ2.out))
            have x0 : w3.cell? ⟨w.heap.size, 0, none⟩ = some (.int .i64 t.op) := HX.out.c 0
            have x1 : w3.cell? ⟨w.heap.size, 1, none⟩ = some (.int .i64 t.vr) := HX.out.c 1
            have x2 : w3.cell? ⟨w.heap.size, 2, none⟩ = some (.int .i64 t.tags) := HX.out.c 2
            have x3 : w3.cell? ⟨w.heap.size, 3, none⟩ = some (.bool t.yes) := HX.out.c 3
            have x4 : w3.cell? ⟨w.heap.size, 4, none⟩ = some (.slice a t.of.length c) := HX.out.c 4
            go_wp2_with fail
            refine (prop_go 6 (by decide) t _ w3 HZ.out HV.out).mono ?_
            rintro e w4 ⟨⟨v, rfl, pa1, pc1, pa2, pc2, rfl, hp1, hp2⟩, hb⟩
            replace HX := Lib.hid (HX.out.keep hb)
            replace HV := Lib.hid (HV.out.below hb)
            replace HVS := Lib.hid (HVS.out.below hb)
            replace HL := Lib.hid (HL.out.trans (hb.mono HL.out.size))
            obtain ⟨P, hP⟩ : ∃ P, P = prpT 6 t := ⟨_, rfl⟩
            rw [← hP] at hp1 hp2 HOK ⊢
            obtain ⟨n1, hn1⟩ : ∃ k, k = P.th.l.length := ⟨_, rfl⟩
            obtain ⟨n2, hn2⟩ : ∃ k, k = P.el.l.length := ⟨_, rfl⟩
            obtain ⟨b1, hb1⟩ : ∃ k, k = P.th.never := ⟨_, rfl⟩
            obtain ⟨b2, hb2⟩ : ∃ k, k = P.el.never := ⟨_, rfl⟩
            have bn1 : (n1 : Int) ≤ 9223372036854775807 := by have := hp1.len; rw [← hn1] at this; unfold maxLen at this; omega
            have bn2 : (n2 : Int) ≤ 9223372036854775807 := by have := hp2.len; rw [← hn2] at this; unfold maxLen at this; omega
            rw [← hn1] at hp1 ⊢
            rw [← hn2] at hp2 ⊢
            rw [← hb1, ← hb2]
            have HD := Lib.hid (show (n1 = P.th.l.length ∧ n2 = P.el.l.length) ∧ b1 = P.th.never ∧ b2 = P.el.never from ⟨⟨hn1, hn2⟩, hb1, hb2⟩)
            have HP1 := Lib.hid hp1
            have HP2 := Lib.hid hp2
            clear hb hP hn1 hn2 hb1 hb2 hp1 hp2 x0 x1 x2 x3 x4
            go_upto_region 15 with fail
            obtain ⟨W5, hW5⟩ : ∃ W5, W5 = (w4.alloc (.cells #[.bool b1, .slice pa1 n1 pc1, .bool b2, .slice pa2 n2 pc2] 32)).alloc (.cells #[.bool b2, .slice pa2 n2 pc2] 30) := ⟨_, rfl⟩
            rw [← hW5]
            have HF := Lib.hid (show Bx W5 (w4.heap.size + 1) 30 #[.bool b2, .slice pa2 n2 pc2] by rw [hW5]; exact alloc_at (by simp))
            have HPB := Lib.hid (show Bx W5 w4.heap.size 32 #[.bool b1, .slice pa1 n1 pc1, .bool b2, .slice pa2 n2 pc2] by rw [hW5]; exact alloc_past (alloc_at rfl) (by simp))
            have hb : Below w4.heap.size w4 W5 := by rw [hW5]; exact ((Below.refl _ _).alloc (Nat.le_refl _) _).alloc (by simp) _
            have HB4 := Lib.hid hb
            have HL4 := HL
            have HVS4 := HVS
            have HP14 := HP1
            replace HX := Lib.hid (HX.out.keep hb)
            replace HV := Lib.hid (HV.out.below hb)
            replace HVS := Lib.hid (HVS.out.below hb)
            replace HL := Lib.hid (HL.out.trans (hb.mono HL.out.size))
            replace HP1 := Lib.hid (HP1.out.below hb)
            replace HP2 := Lib.hid (HP2.out.below hb)
            have HSZ := Lib.hid (show W5.heap.size = w4.heap.size + 1 + 1 by rw [hW5]; simp)
            have HSL := Lib.hid HL4.out.size
            clear hb hW5
            have x0 : W5.cell? ⟨w.heap.size, 0, none⟩ = some (.int .i64 t.op) := HX.out.c 0
            have x1 : W5.cell? ⟨w.heap.size, 1, none⟩ = some (.int .i64 t.vr) := HX.out.c 1
            have x2 : W5.cell? ⟨w.heap.size, 2, none⟩ = some (.int .i64 t.tags) := HX.out.c 2
            have x3 : W5.cell? ⟨w.heap.size, 3, none⟩ = some (.bool t.yes) := HX.out.c 3
            have x4 : W5.cell? ⟨w.heap.size, 4, none⟩ = some (.slice a t.of.length c) := HX.out.c 4
            go_wp2_with fail
            refine (yes_go l va k vc HK.out 6 t _ W5 HZ.out HV.out HVS.out).mono ?_
            rintro e w6 ⟨rfl, hb⟩
            replace HX := Lib.hid (HX.out.keep hb)
            replace HV := Lib.hid (HV.out.below hb)
            replace HVS := Lib.hid (HVS.out.below hb)
            replace HL := Lib.hid (HL.out.trans (hb.mono HL.out.size))
            replace HP1 := Lib.hid (HP1.out.below hb)
            replace HP2 := Lib.hid (HP2.out.below hb)
            replace HF := Lib.hid (HF.out.keep hb)
            replace HPB := Lib.hid (HPB.out.keep hb)
            replace HB4 := Lib.hid (HB4.out.trans (hb.mono HB4.out.size))
            obtain ⟨y, hy⟩ : ∃ y, y = yesT l 6 t := ⟨_, rfl⟩
            rw [← hy] at HOK ⊢
            have HS6 := Lib.hid (show w4.heap.size + 1 + 1 ≤ w6.heap.size by have h1 := HSZ.out; have h2 := hb.size; omega)
            clear hy hb x0 x1 x2 x3 x4
            cases y with
            | false =>
              have HEV := Lib.hid (ok_each HBO.out (f := P.el) HOK.out)
              obtain rfl : b2 = false := HD.out.2.2.trans HOK.out.1
              have HN := Lib.hid HD.out.1.2
              have f0 : w6.cell? ⟨w4.heap.size + 1, 0, none⟩ = some (.bool false) := HF.out.c0
              have f1 : w6.cell? ⟨w4.heap.size + 1, 1, none⟩ = some (.slice pa2 n2 pc2) := HF.out.c1
              go_wp2
              go_loopw [11, 12] (fun iv _ wr => NhB n2 w6 iv wr) (fun iv _ _ => n2 - (intOf iv).toNat)
              case atStart => exact ⟨0, Nat.zero_le _, rfl, Lib.hid (Below.refl _ _)⟩
              case round =>
                clear f0 f1
                obtain ⟨i, hi1, rfl, HB⟩ := hrel
                have f0 : wr.cell? ⟨w4.heap.size + 1, 0, none⟩ = some (.bool false) := (HF.out.keep HB.out).c0
                have f1 : wr.cell? ⟨w4.heap.size + 1, 1, none⟩ = some (.slice pa2 n2 pc2) := (HF.out.keep HB.out).c1
                by_cases hlt : i < n2
                · have hi0 : (0 : Int) ≤ (i : Int) := Int.natCast_nonneg _
                  have hi2 : (i : Int) < (n2 : Int) := by omega
                  have hil : i < P.el.l.length := by rw [← HN.out]; exact hlt
                  obtain ⟨b, off, rfl, _, hb, y0, y1⟩ := (HP2.out.below HB.out).get hil
                  obtain ⟨x, hx⟩ : ∃ x, P.el.l.getD i fa0 = x := ⟨_, rfl⟩
                  rw [hx] at y0 y1
                  have hev := HEV.out x (by
                    rw [← hx, List.getD_eq_getElem?_getD, List.getElem?_eq_getElem hil]; exact List.getElem_mem hil)
                  obtain ⟨h1, h2, h3⟩ := hev
                  obtain ⟨j, hj⟩ : ∃ j : Nat, x.1 = (j : Int) := ⟨x.1.toNat, by omega⟩
                  have hjl : j < l.length := by omega
                  have htn : x.1.toNat = j := by omega
                  rw [htn] at h3
                  obtain ⟨vb, voff, rfl, vlt, v0, v1⟩ := (HVS.out.below HB.out).elem hjl
                  obtain ⟨tg, htg⟩ : ∃ tg, (l.getD j vl0).1 = tg := ⟨_, rfl⟩
                  rw [htg] at v0 h3
                  rw [hj] at y0
                  obtain ⟨q, hq⟩ : ∃ q, q = bits .and .i64 tg x.2 := ⟨_, rfl⟩
                  rw [← hq] at h3
                  have gq : bits .and .i64 tg x.2 = q := hq.symm
                  have g1 : decide ((j : Int) < 0) = false := decide_eq_false (by omega)
                  have jk : (j : Int) < (k : Int) := by rw [HK.out]; omega
                  have j0 : (0 : Int) ≤ (j : Int) := Int.natCast_nonneg _
                  have g2 : decide ((k : Int) ≤ (j : Int)) = false := decide_eq_false (by omega)
                  have g5 : decide (k ≤ j) = false := decide_eq_false (by omega)
                  have g3 : decide (q = 0) = false := decide_eq_false h3
                  have g4 : (q == 0) = false := by simp [h3]
                  clear hq hj hjl htn htg h1 h2 hx v1 h3
                  go_upto_region 21 with fail
                  go_quiet (fail)
                  go_wp2
                  exact ⟨⟨i + 1, hlt, by go_num, Lib.hid (below_drawn HB.out _)⟩, by simp [intOf]; omega⟩
                · have hin : i = n2 := by omega
                  go_wp2
                  refine bodyPost_ret (v := .bool true) ?_ ?_ ?_
                  · simp [results, Try.results6, go_sem]
                  · rfl
                  · exact ⟨rfl, HL.out.trans (HB.out.mono HL.out.size)⟩
            | true =>
              have HEV := Lib.hid (ok_each HBO.out (f := P.th) HOK.out)
              obtain rfl : b1 = false := HD.out.2.1.trans HOK.out.1
              have HN := Lib.hid HD.out.1.1
              have p0 : w6.cell? ⟨w4.heap.size, 0, none⟩ = some (.bool false) := HPB.out.d0
              have p1 : w6.cell? ⟨w4.heap.size, 1, none⟩ = some (.slice pa1 n1 pc1) := HPB.out.d1
              have q0 : w6.cell? ⟨w4.heap.size + 1, 0, none⟩ = some (.bool b2) := HF.out.c0
              have q1 : w6.cell? ⟨w4.heap.size + 1, 1, none⟩ = some (.slice pa2 n2 pc2) := HF.out.c1
              have fr0 := HF.out.fr 0
              have fr1 := HF.out.fr 1
              go_upto_region 17 with fail
              obtain ⟨W7, hW7⟩ : ∃ W7, W7 = (w6.setCell ⟨w4.heap.size + 1, 0, none⟩ (.bool false)).setCell ⟨w4.heap.size + 1, 1, none⟩ (.slice pa1 n1 pc1) := ⟨_, rfl⟩
              rw [← hW7]
              have HF7 := Lib.hid (show Bx W7 (w4.heap.size + 1) 30 #[.bool false, .slice pa1 n1 pc1] by rw [hW7]; exact (HF.out.set 0 _).set 1 _)
              have hb : Below w4.heap.size w4 W7 := by rw [hW7]; exact (HB4.out.setCell (p := ⟨w4.heap.size + 1, 0, none⟩) (Nat.le_succ _) _).setCell (p := ⟨w4.heap.size + 1, 1, none⟩) (Nat.le_succ _) _
              replace HVS := Lib.hid (HVS4.out.below hb)
              replace HP1 := Lib.hid (HP14.out.below hb)
              have HL7 := Lib.hid (HL4.out.trans (hb.mono HL4.out.size))
              clear hb hW7 HX HV p0 p1 q0 q1 fr0 fr1
              have f0 : W7.cell? ⟨w4.heap.size + 1, 0, none⟩ = some (.bool false) := HF7.out.c0
              have f1 : W7.cell? ⟨w4.heap.size + 1, 1, none⟩ = some (.slice pa1 n1 pc1) := HF7.out.c1
              go_wp2
              go_loopw [11, 12] (fun iv _ wr => NhB n1 W7 iv wr) (fun iv _ _ => n1 - (intOf iv).toNat)
              case atStart => exact ⟨0, Nat.zero_le _, rfl, Lib.hid (Below.refl _ _)⟩
              case round =>
                clear f0 f1
                obtain ⟨i, hi1, rfl, HB⟩ := hrel
                have f0 : wr.cell? ⟨w4.heap.size + 1, 0, none⟩ = some (.bool false) := (HF7.out.keep HB.out).c0
                have f1 : wr.cell? ⟨w4.heap.size + 1, 1, none⟩ = some (.slice pa1 n1 pc1) := (HF7.out.keep HB.out).c1
                by_cases hlt : i < n1
                · have hi0 : (0 : Int) ≤ (i : Int) := Int.natCast_nonneg _
                  have hi2 : (i : Int) < (n1 : Int) := by omega
                  have hil : i < P.th.l.length := by rw [← HN.out]; exact hlt
                  obtain ⟨b, off, rfl, _, hb, y0, y1⟩ := (HP1.out.below HB.out).get hil
                  obtain ⟨x, hx⟩ : ∃ x, P.th.l.getD i fa0 = x := ⟨_, rfl⟩
                  rw [hx] at y0 y1
                  have hev := HEV.out x (by
                    rw [← hx, List.getD_eq_getElem?_getD, List.getElem?_eq_getElem hil]; exact List.getElem_mem hil)
                  obtain ⟨h1, h2, h3⟩ := hev
                  obtain ⟨j, hj⟩ : ∃ j : Nat, x.1 = (j : Int) := ⟨x.1.toNat, by omega⟩
                  have hjl : j < l.length := by omega
                  have htn : x.1.toNat = j := by omega
                  rw [htn] at h3
                  obtain ⟨vb, voff, rfl, vlt, v0, v1⟩ := (HVS.out.below HB.out).elem hjl
                  obtain ⟨tg, htg⟩ : ∃ tg, (l.getD j vl0).1 = tg := ⟨_, rfl⟩
                  rw [htg] at v0 h3
                  rw [hj] at y0
                  obtain ⟨q, hq⟩ : ∃ q, q = bits .and .i64 tg x.2 := ⟨_, rfl⟩
                  rw [← hq] at h3
                  have gq : bits .and .i64 tg x.2 = q := hq.symm
                  have g1 : decide ((j : Int) < 0) = false := decide_eq_false (by omega)
                  have jk : (j : Int) < (k : Int) := by rw [HK.out]; omega
                  have j0 : (0 : Int) ≤ (j : Int) := Int.natCast_nonneg _
                  have g2 : decide ((k : Int) ≤ (j : Int)) = false := decide_eq_false (by omega)
                  have g5 : decide (k ≤ j) = false := decide_eq_false (by omega)
                  have g3 : decide (q = 0) = false := decide_eq_false h3
                  have g4 : (q == 0) = false := by simp [h3]
                  clear hq hj hjl htn htg h1 h2 hx v1 h3
                  go_upto_region 21 with fail
                  go_quiet (fail)
                  go_wp2
                  exact ⟨⟨i + 1, hlt, by go_num, Lib.hid (below_drawn HB.out _)⟩, by simp [intOf]; omega⟩
                · have hin : i = n1 := by omega
                  go_wp2
                  refine bodyPost_ret (v := .bool true) ?_ ?_ ?_
                  · simp [results, Try.results6, go_sem]
                  · rfl
                  · exact ⟨rfl, HL7.out.trans (HB.out.mono HL7.out.size)⟩
    · have g8 : (8 : Int) < (k : Int) := by omega
      go_wp2
      refine bodyPost_ret (v := .bool true) ?_ ?_ ?_
      · simp [results, Try.results6, go_sem]
      · rfl
      · exact ⟨rfl, HL.out⟩
end Go.Proofs.Ytgjkobkcmgliaaa

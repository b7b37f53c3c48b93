import Derived.Test.YtlalnkabfigodaaDoorCoPa
namespace Go.Proofs.YtlalnkabfigodaaDoor
open Go.RowKit

theorem blmCs_all (l : Int) : ∀ (m : List Co), blmCs l m = m.all (blmC l)
  | [] => rfl
  | d :: r => by rw [blmCs, blmCs_all l r]; rfl
set_option maxRecDepth 100000 in
set_option maxHeartbeats 32000000 in
theorem blames_go (lb : Int) (n : Nat) : ∀ (c : Co) (v : Value) (w : World), szC c ≤ n → CoV w v c → Calls Tryd.prog 37 #[v, .int .i64 lb] w fun e w' => e = .returned (.bool (blmC lb c)) ∧ Below w.heap.size w w' := by
  induction n with
  | zero => intro c v w h; have := szC_pos c; omega
  | succ n ih =>
    intro c v w hn hv
    have IH := Lib.hid ih
    have HN0 := Lib.hid hn
    clear ih hn
    obtain ⟨pa, pc, fa, fc, rfl, hp, hf⟩ := hv.form
    obtain ⟨np, hnp⟩ : ∃ n, n = c.pairs.length := ⟨_, rfl⟩
    obtain ⟨nf, hnf⟩ : ∃ n, n = c.funs.length := ⟨_, rfl⟩
    rw [← hnp] at hp ⊢
    rw [← hnf] at hf ⊢
    have bp : (np : Int) ≤ 9223372036854775807 := by have := hp.len; rw [← hnp] at this; unfold maxLen at this; omega
    have bf : (nf : Int) ≤ 9223372036854775807 := by have := hf.len; rw [← hnf] at this; unfold maxLen at this; omega
    obtain ⟨W, hW⟩ : ∃ W, W = w.alloc (.cells #[.int .i64 c.h.f0, .int .i64 c.h.f1, .int .i64 c.h.f2, .int .i64 c.h.f3, .int .i64 c.h.f4, .int .i64 c.h.f5, .int .i64 c.h.pair, .int .i64 c.h.pl, .slice pa np pc, .int .i64 c.h.fn, .int .i64 c.h.fl, .slice fa nf fc] 25) := ⟨_, rfl⟩
    have HX := Lib.hid (show CBox W w.heap.size 25 ⟨c.h, .slice pa np pc, .slice fa nf fc⟩ by rw [hW]; exact CBox.made _ _ ⟨c.h, .slice pa np pc, .slice fa nf fc⟩)
    have HL := Lib.hid (show Below w.heap.size w W by rw [hW]; exact (Below.refl _ _).alloc (Nat.le_refl _) _)
    have HP := Lib.hid (CoSN.below hp HL.out)
    have HF := Lib.hid (CoSN.below hf HL.out)
    have HPN := Lib.hid hnp
    have HFN := Lib.hid hnf
    have HW := Lib.hid hW
    clear hp hf hnp hnf hW hv
    obtain ⟨z, hz⟩ : ∃ z, z = blmC lb c := ⟨_, rfl⟩
    rw [← hz]
    rw [blmC_eq, blmCs_all, blmCs_all] at hz
    have HZ := Lib.hid hz
    clear hz
    have x7 : W.cell? ⟨w.heap.size, 7, none⟩ = some (.int .i64 c.h.pl) := HX.out.c7
    have x10 : W.cell? ⟨w.heap.size, 10, none⟩ = some (.int .i64 c.h.fl) := HX.out.c10
    go_enter Tryd.func37, Tryd.ntmps37
    go_wp2
    rw [← HW.out]
    clear HW
    go_loopw [5] (fun iv wr => ∃ i : Nat, i ≤ 6 ∧ iv = .int .i64 i ∧ W = wr ∧ Hid (∀ j, j < i → c.h.flat.getD j 0 = 0 ∨ c.h.flat.getD j 0 = lb)) (fun iv _ => 6 - (intOf iv).toNat)
    case atStart => exact ⟨0, Nat.zero_le _, rfl, rfl, Lib.hid fun j h => absurd h (Nat.not_lt_zero _)⟩
    case round =>
      obtain ⟨i, hi1, rfl, rfl, HQ⟩ := hrel
      by_cases hlt : i < 6
      · have hi0 : (0 : Int) ≤ (i : Int) := Int.natCast_nonneg _
        have hi2 : (i : Int) < 6 := by omega
        have xi := HX.out.flat hlt
        obtain ⟨x, hx⟩ : ∃ x, c.h.flat.getD i 0 = x := ⟨_, rfl⟩
        rw [hx] at xi
        have HXX := Lib.hid hx
        clear hx
        have HBADX := Lib.hid (show ¬ (x = 0 ∨ x = lb) → z = false from fun hx => by
          rw [HZ.out]
          have : (c.h.flat.all fun x => decide (x = 0 ∨ x = lb)) = false := by
            rw [List.all_eq_false]
            refine ⟨x, ?_, by rw [decide_eq_false hx]; decide⟩
            rw [← HXX.out, List.getD_eq_getElem?_getD, List.getElem?_eq_getElem (show i < c.h.flat.length from hlt)]
            exact List.getElem_mem _
          rw [this]; simp)
        by_cases g1 : x = 0
        · have bg1 : (x != 0) = false := by simp [g1]
          have G1 := Lib.hid g1
          clear g1
          go_wp2
          refine ⟨⟨i + 1, hlt, by go_num, by trivial, Lib.hid fun j hj => ?_⟩, by simp [intOf]; omega⟩
          by_cases e : j = i
          · rw [e, HXX.out]; exact .inl G1.out
          · exact HQ.out j (by omega)
        · have bg1 : (x != 0) = true := bne_iff_ne.2 g1
          have G1 := Lib.hid g1
          clear g1
          by_cases g2 : x = lb
          · have bg2 : (x != lb) = false := by simp [g2]
            have G2 := Lib.hid g2
            clear g2
            go_wp2
            refine ⟨⟨i + 1, hlt, by go_num, by trivial, Lib.hid fun j hj => ?_⟩, by simp [intOf]; omega⟩
            by_cases e : j = i
            · rw [e, HXX.out]; exact .inr G2.out
            · exact HQ.out j (by omega)
          · have bg2 : (x != lb) = true := bne_iff_ne.2 g2
            have G2 := Lib.hid g2
            clear g2
            have e : z = false := HBADX.out (fun h => h.elim G1.out G2.out)
            subst e
            go_wp2
            refine bodyPost_ret (v := .bool false) ?_ ?_ ?_
            · simp [results, Tryd.results37, go_sem]
            · rfl
            · exact ⟨rfl, HL.out⟩
      · have HFL := Lib.hid (show (c.h.flat.all fun x => decide (x = 0 ∨ x = lb)) = true by
          rw [List.all_eq_true]
          intro x hx
          obtain ⟨j, hj, rfl⟩ := List.getElem_of_mem hx
          have := HQ.out j (by have : j < 6 := hj; omega)
          rw [List.getD_eq_getElem?_getD, List.getElem?_eq_getElem hj] at this
          exact decide_eq_true this)
        clear HQ
        go_upto_region 6 with fail
        go_cut [44] from 25 to 44 (fun cc wx => cc = .bool (decide (¬ (c.h.pl = 0 ∨ c.h.pl = lb) ∨ ¬ (c.h.fl = 0 ∨ c.h.fl = lb))) ∧ W = wx)
        case first =>
          by_cases p1 : c.h.pl = 0
          · have bp1 : (c.h.pl != 0) = false := by simp [p1]
            have P1 := Lib.hid p1
            clear p1
            by_cases f1 : c.h.fl = 0
            · have bf1 : (c.h.fl != 0) = false := by simp [f1]
              have F1 := Lib.hid f1
              clear f1
              go_wp2
              go_meet
              case rel => exact ⟨congrArg Value.bool (decide_eq_false (p := ¬ (c.h.pl = 0 ∨ c.h.pl = lb) ∨ ¬ (c.h.fl = 0 ∨ c.h.fl = lb)) (fun h => h.elim (fun h => h (.inl P1.out)) (fun h => h (.inl F1.out)))).symm, rfl⟩
            · have bf1 : (c.h.fl != 0) = true := bne_iff_ne.2 f1
              have F1 := Lib.hid f1
              clear f1
              by_cases f2 : c.h.fl = lb
              · have bf2 : (c.h.fl != lb) = false := by simp [f2]
                have F2 := Lib.hid f2
                clear f2
                go_wp2
                go_meet
                case rel => exact ⟨congrArg Value.bool (decide_eq_false (p := ¬ (c.h.pl = 0 ∨ c.h.pl = lb) ∨ ¬ (c.h.fl = 0 ∨ c.h.fl = lb)) (fun h => h.elim (fun h => h (.inl P1.out)) (fun h => h (.inr F2.out)))).symm, rfl⟩
              · have bf2 : (c.h.fl != lb) = true := bne_iff_ne.2 f2
                have F2 := Lib.hid f2
                clear f2
                go_wp2
                go_meet
                case rel => exact ⟨congrArg Value.bool (decide_eq_true (p := ¬ (c.h.pl = 0 ∨ c.h.pl = lb) ∨ ¬ (c.h.fl = 0 ∨ c.h.fl = lb)) (.inr (fun h => h.elim F1.out F2.out))).symm, rfl⟩
          · have bp1 : (c.h.pl != 0) = true := bne_iff_ne.2 p1
            have P1 := Lib.hid p1
            clear p1
            by_cases p2 : c.h.pl = lb
            · have bp2 : (c.h.pl != lb) = false := by simp [p2]
              have P2 := Lib.hid p2
              clear p2
              by_cases f1 : c.h.fl = 0
              · have bf1 : (c.h.fl != 0) = false := by simp [f1]
                have F1 := Lib.hid f1
                clear f1
                go_wp2
                go_meet
                case rel => exact ⟨congrArg Value.bool (decide_eq_false (p := ¬ (c.h.pl = 0 ∨ c.h.pl = lb) ∨ ¬ (c.h.fl = 0 ∨ c.h.fl = lb)) (fun h => h.elim (fun h => h (.inr P2.out)) (fun h => h (.inl F1.out)))).symm, rfl⟩
              · have bf1 : (c.h.fl != 0) = true := bne_iff_ne.2 f1
                have F1 := Lib.hid f1
                clear f1
                by_cases f2 : c.h.fl = lb
                · have bf2 : (c.h.fl != lb) = false := by simp [f2]
                  have F2 := Lib.hid f2
                  clear f2
                  go_wp2
                  go_meet
                  case rel => exact ⟨congrArg Value.bool (decide_eq_false (p := ¬ (c.h.pl = 0 ∨ c.h.pl = lb) ∨ ¬ (c.h.fl = 0 ∨ c.h.fl = lb)) (fun h => h.elim (fun h => h (.inr P2.out)) (fun h => h (.inr F2.out)))).symm, rfl⟩
                · have bf2 : (c.h.fl != lb) = true := bne_iff_ne.2 f2
                  have F2 := Lib.hid f2
                  clear f2
                  go_wp2
                  go_meet
                  case rel => exact ⟨congrArg Value.bool (decide_eq_true (p := ¬ (c.h.pl = 0 ∨ c.h.pl = lb) ∨ ¬ (c.h.fl = 0 ∨ c.h.fl = lb)) (.inr (fun h => h.elim F1.out F2.out))).symm, rfl⟩
            · have bp2 : (c.h.pl != lb) = true := bne_iff_ne.2 p2
              have P2 := Lib.hid p2
              clear p2
              go_wp2
              go_meet
              case rel => exact ⟨congrArg Value.bool (decide_eq_true (p := ¬ (c.h.pl = 0 ∨ c.h.pl = lb) ∨ ¬ (c.h.fl = 0 ∨ c.h.fl = lb)) (.inl (fun h => h.elim P1.out P2.out))).symm, rfl⟩
        case rest =>
          obtain ⟨rfl, rfl⟩ := hcut
          clear x7 x10
          by_cases hv : ¬ (c.h.pl = 0 ∨ c.h.pl = lb) ∨ ¬ (c.h.fl = 0 ∨ c.h.fl = lb)
          · have bv : decide (¬ (c.h.pl = 0 ∨ c.h.pl = lb) ∨ ¬ (c.h.fl = 0 ∨ c.h.fl = lb)) = true := decide_eq_true hv
            have e : z = false := by
              rw [HZ.out]
              rcases hv with h | h
              · rw [decide_eq_false h]; simp
              · rw [decide_eq_false h]; simp
            subst e
            rw [bv]
            clear hv
            go_wp2
            refine bodyPost_ret (v := .bool false) ?_ ?_ ?_
            · simp [results, Tryd.results37, go_sem]
            · rfl
            · exact ⟨rfl, HL.out⟩
          have bv : decide (¬ (c.h.pl = 0 ∨ c.h.pl = lb) ∨ ¬ (c.h.fl = 0 ∨ c.h.fl = lb)) = false := decide_eq_false hv
          have HPL := Lib.hid (show decide (c.h.pl = 0 ∨ c.h.pl = lb) = true from decide_eq_true (Classical.not_not.1 fun h => hv (.inl h)))
          have HFB := Lib.hid (show decide (c.h.fl = 0 ∨ c.h.fl = lb) = true from decide_eq_true (Classical.not_not.1 fun h => hv (.inr h)))
          rw [bv]
          clear hv bv
          have x8 : W.cell? ⟨w.heap.size, 8, none⟩ = some (.slice pa np pc) := HX.out.c8
          have x11 : W.cell? ⟨w.heap.size, 11, none⟩ = some (.slice fa nf fc) := HX.out.c11
          go_wp2
          go_loopw [6] (fun iv wr => AlRel (blmC lb) np W c.pairs iv wr) (fun iv _ => np - (intOf iv).toNat)
          case atStart => exact ⟨0, Nat.zero_le _, rfl, Lib.hid (Below.refl _ _), Lib.hid fun j h => absurd h (Nat.not_lt_zero _)⟩
          case round =>
            clear x8 x11
            obtain ⟨i, hi1, rfl, HB, HQ⟩ := hrel
            have x8 : wr.cell? ⟨w.heap.size, 8, none⟩ = some (.slice pa np pc) := (HX.out.keep HB.out).c8
            have x11 : wr.cell? ⟨w.heap.size, 11, none⟩ = some (.slice fa nf fc) := (HX.out.keep HB.out).c11
            by_cases hlt : i < np
            · have hi0 : (0 : Int) ≤ (i : Int) := Int.natCast_nonneg _
              have hi2 : (i : Int) < (np : Int) := by omega
              have hil : i < c.pairs.length := by rw [← HPN.out]; exact hlt
              obtain ⟨d, hd⟩ : ∃ d, c.pairs.getD i co0 = d := ⟨_, rfl⟩
              obtain ⟨b, off, p1, c1, p2, c2, rfl, hb, ⟨e0, e1, e2, e3, e4, e5, e6, e7, e8, e9, e10, e11⟩, hv⟩ := CoSN.elem (CoSN.below HP.out HB.out) hil hd
              have HDD := Lib.hid hd
              have HV := Lib.hid hv
              clear hd hv hb
              go_wp2_with fail
              refine (IH.out d _ wr (by have h1 := HN0.out; have h2 := szC_pair c i hil; rw [HDD.out] at h2; omega) HV.out).mono ?_
              rintro e w2 ⟨rfl, hb⟩
              have HB2 := Lib.hid (HB.out.trans (hb.mono HB.out.size))
              obtain ⟨y, hy⟩ : ∃ y, y = blmC lb d := ⟨_, rfl⟩
              rw [← hy]
              have HY := Lib.hid hy
              clear hb hy e0 e1 e2 e3 e4 e5 e6 e7 e8 e9 e10 e11
              cases y with
              | false =>
                have HBAD := Lib.hid (all_noC (p := blmC lb) hil (by rw [HDD.out]; exact HY.out.symm))
                have e : z = false := by rw [HZ.out, HBAD.out]; simp
                subst e
                go_wp2
                refine bodyPost_ret (v := .bool false) ?_ ?_ ?_
                · simp [results, Tryd.results37, go_sem]
                · rfl
                · exact ⟨rfl, HL.out.trans (HB2.out.mono HL.out.size)⟩
              | true =>
                go_wp2
                refine ⟨⟨i + 1, hlt, by go_num, HB2, Lib.hid fun j hj => ?_⟩, by simp [intOf]; omega⟩
                by_cases e : j = i
                · rw [e, HDD.out]; exact HY.out.symm
                · exact HQ.out j (by omega)
            · have hin : i = np := by omega
              have HALL := Lib.hid (all_getC (p := blmC lb) (l := c.pairs) fun j hj => HQ.out j (by rw [hin, HPN.out]; exact hj))
              clear hin
              obtain ⟨W1, rfl⟩ : ∃ x, x = wr := ⟨_, rfl⟩
              have HALL1 := HALL
              have hB := HB.out
              replace HX := Lib.hid (HX.out.keep hB)
              replace HP := Lib.hid (CoSN.below HP.out hB)
              replace HF := Lib.hid (CoSN.below HF.out hB)
              replace HL := Lib.hid (HL.out.trans (hB.mono HL.out.size))
              clear HB HQ HALL hB
              go_wp2
              go_loopw [7] (fun iv wr => AlRel (blmC lb) nf W1 c.funs iv wr) (fun iv _ => nf - (intOf iv).toNat)
              case atStart => exact ⟨0, Nat.zero_le _, rfl, Lib.hid (Below.refl _ _), Lib.hid fun j h => absurd h (Nat.not_lt_zero _)⟩
              case round =>
                clear x8 x11
                obtain ⟨i, hi1, rfl, HB, HQ⟩ := hrel
                have x8 : wr.cell? ⟨w.heap.size, 8, none⟩ = some (.slice pa np pc) := (HX.out.keep HB.out).c8
                have x11 : wr.cell? ⟨w.heap.size, 11, none⟩ = some (.slice fa nf fc) := (HX.out.keep HB.out).c11
                by_cases hlt : i < nf
                · have hi0 : (0 : Int) ≤ (i : Int) := Int.natCast_nonneg _
                  have hi2 : (i : Int) < (nf : Int) := by omega
                  have hil : i < c.funs.length := by rw [← HFN.out]; exact hlt
                  obtain ⟨d, hd⟩ : ∃ d, c.funs.getD i co0 = d := ⟨_, rfl⟩
                  obtain ⟨b, off, p1, c1, p2, c2, rfl, hb, ⟨e0, e1, e2, e3, e4, e5, e6, e7, e8, e9, e10, e11⟩, hv⟩ := CoSN.elem (CoSN.below HF.out HB.out) hil hd
                  have HDD := Lib.hid hd
                  have HV := Lib.hid hv
                  clear hd hv hb
                  go_wp2_with fail
                  refine (IH.out d _ wr (by have h1 := HN0.out; have h2 := szC_fun c i hil; rw [HDD.out] at h2; omega) HV.out).mono ?_
                  rintro e w2 ⟨rfl, hb⟩
                  have HB2 := Lib.hid (HB.out.trans (hb.mono HB.out.size))
                  obtain ⟨y, hy⟩ : ∃ y, y = blmC lb d := ⟨_, rfl⟩
                  rw [← hy]
                  have HY := Lib.hid hy
                  clear hb hy e0 e1 e2 e3 e4 e5 e6 e7 e8 e9 e10 e11
                  cases y with
                  | false =>
                    have HBAD := Lib.hid (all_noC (p := blmC lb) hil (by rw [HDD.out]; exact HY.out.symm))
                    have e : z = false := by rw [HZ.out, HBAD.out]; simp
                    subst e
                    go_wp2
                    refine bodyPost_ret (v := .bool false) ?_ ?_ ?_
                    · simp [results, Tryd.results37, go_sem]
                    · rfl
                    · exact ⟨rfl, HL.out.trans (HB2.out.mono HL.out.size)⟩
                  | true =>
                    go_wp2
                    refine ⟨⟨i + 1, hlt, by go_num, HB2, Lib.hid fun j hj => ?_⟩, by simp [intOf]; omega⟩
                    by_cases e : j = i
                    · rw [e, HDD.out]; exact HY.out.symm
                    · exact HQ.out j (by omega)
                · have hin : i = nf := by omega
                  have HALL := Lib.hid (all_getC (p := blmC lb) (l := c.funs) fun j hj => HQ.out j (by rw [hin, HFN.out]; exact hj))
                  clear hin
                  have e : z = true := by rw [HZ.out, HFL.out, HPL.out, HFB.out, HALL1.out, HALL.out]; rfl
                  subst e
                  go_wp2
                  refine bodyPost_ret (v := .bool true) ?_ ?_ ?_
                  · simp [results, Tryd.results37, go_sem]
                  · rfl
                  · exact ⟨rfl, HL.out.trans (HB.out.mono HL.out.size)⟩
end Go.Proofs.YtlalnkabfigodaaDoor

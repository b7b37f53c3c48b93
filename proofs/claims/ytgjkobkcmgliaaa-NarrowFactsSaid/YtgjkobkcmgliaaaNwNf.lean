import Derived.Test.YtgjkobkcmgliaaaNwAw
namespace Go.Proofs.Ytgjkobkcmgliaaa
open Go.RowKit

set_option maxRecDepth 100000 in
set_option maxHeartbeats 32000000 in
theorem nfacts_p (B B' : Nat) (nv mv : Bool) (l k : List (Int × Int)) (a b : Option Addr) (n m c d : Nat) (w : World) (hn : n = l.length) (hm : m = k.length) (hf : FaB B w (.slice a n c) l) (hg : FaB B' w (.slice b m d) k) :
    Calls Try.prog 4 #[.agg #[.bool nv, .slice a n c], .agg #[.bool mv, .slice b m d]] w fun e w' => e = .returned (.bool true) ∧ Below w.heap.size w w' := by
  obtain ⟨W, hW⟩ : ∃ W, W = (w.alloc (.cells #[.bool nv, .slice a n c] 30)).alloc (.cells #[.bool mv, .slice b m d] 30) := ⟨_, rfl⟩
  have HX := Lib.hid (show Bx W w.heap.size 30 #[.bool nv, .slice a n c] by rw [hW]; exact alloc_past (alloc_at rfl) (by simp))
  have HY := Lib.hid (show Bx W (w.heap.size + 1) 30 #[.bool mv, .slice b m d] by rw [hW]; exact alloc_at (by simp))
  have HL := Lib.hid (show Below w.heap.size w W by rw [hW]; exact ((Below.refl _ _).alloc (Nat.le_refl _) _).alloc (by simp) _)
  have HF := Lib.hid (hf.below HL.out)
  have HG := Lib.hid (hg.below HL.out)
  have HN := Lib.hid hn
  have HM := Lib.hid hm
  have bn : (n : Int) ≤ 9223372036854775807 := by
    have := hf.len; rw [← hn] at this; unfold maxLen at this; omega
  have bm : (m : Int) ≤ 9223372036854775807 := by
    have := hg.len; rw [← hm] at this; unfold maxLen at this; omega
  have HW := Lib.hid hW
  clear hn hm hf hg hW
  go_enter Try.func4, Try.ntmps4
  go_wp2_with fail
  rw [← HW.out]
  refine (awake_p W).mono ?_
  rintro e w1 ⟨rfl, hb⟩
  replace HX := Lib.hid (HX.out.keep hb)
  replace HY := Lib.hid (HY.out.keep hb)
  replace HF := Lib.hid (HF.out.below hb)
  replace HG := Lib.hid (HG.out.below hb)
  replace HL := Lib.hid (HL.out.trans (hb.mono HL.out.size))
  clear hb HW
  have x0 := HX.out.c0
  have x1 := HX.out.c1
  have y0 := HY.out.c0
  have y1 := HY.out.c1
  by_cases hc : n ≤ 30 ∧ m ≤ 30
  · obtain ⟨hn30, hm30⟩ := hc
    have g1 : ¬ (30 : Int) < (n : Int) := by omega
    have g2 : ¬ (30 : Int) < (m : Int) := by omega
    go_upto_region 4 with fail
    obtain ⟨R, hR⟩ : ∃ R, R = andF ⟨nv, l⟩ ⟨mv, k⟩ := ⟨_, rfl⟩
    have HRL := Lib.hid (show R.l.length ≤ 10000 by rw [hR]; have := andF_len ⟨nv, l⟩ ⟨mv, k⟩; have h1 := HN.out; have h2 := HM.out; simp only at this; omega)
    have HR := Lib.hid hR
    clear hR
    have hb : Below w1.heap.size w1 w1.drew := (Below.refl _ _).drew
    replace HF := Lib.hid (HF.out.below hb)
    replace HG := Lib.hid (HG.out.below hb)
    replace HX := Lib.hid (HX.out.keep hb)
    replace HY := Lib.hid (HY.out.keep hb)
    replace HL := Lib.hid (HL.out.trans (hb.mono HL.out.size))
    clear hb x0 x1 y0 y1
    (try dsimp only [List.append])
    refine wp_region_noPanic ?_
    refine wp_region_held_drew (S := (fun w' => (w'.cell? ⟨w.heap.size, 0, none⟩ = some (.bool nv) ∧ w'.cell? ⟨w.heap.size, 1, none⟩ = some (.slice a n c)) ∧ w'.cell? ⟨w.heap.size + 1, 0, none⟩ = some (.bool mv) ∧ w'.cell? ⟨w.heap.size + 1, 1, none⟩ = some (.slice b m d))) (by kernel_rfl) (by (try dsimp only); exact ⟨⟨HX.out.c0, HX.out.c1⟩, HY.out.c0, HY.out.c1⟩) (fun hHeld => ?_)
    generalize w1.drew = A0 at hHeld HX HY HL HF HG ⊢
    refine' tk_any 0 20 (v := _) ?hi42001 ?hd42001 (by kernel_rfl) (by kernel_rfl) (by kernel_rfl) (fun _ _ _ h => h) ?hy42001 hHeld ?hr42001
    case hi42001 => (simp only [List.getElem?_toArray, List.getElem?_cons_zero]; rfl)
    case hd42001 => rfl
    case hy42001 =>
      refine' Or.inl ⟨?hw42001, ?hx42001⟩
      case hw42001 => rfl
      case hx42001 => (intro w hSw; (try dsimp only at hSw); go_simp; (try with_reducible rfl))
    (try simp only [Act.put, List.setIfInBounds_toArray, List.set_cons_zero, List.set_cons_succ])
    refine' tk_any 1 21 (v := _) ?hi42002 ?hd42002 (by kernel_rfl) (by kernel_rfl) (by kernel_rfl) (fun _ _ _ h => h) ?hy42002 hHeld ?hr42002
    case hi42002 => (simp only [List.getElem?_toArray, List.getElem?_cons_succ, List.getElem?_cons_zero]; rfl)
    case hd42002 => rfl
    case hy42002 =>
      refine' Or.inl ⟨?hw42002, ?hx42002⟩
      case hw42002 => rfl
      case hx42002 => (intro w hSw; (try dsimp only at hSw); go_simp; (try with_reducible rfl))
    (try simp only [Act.put, List.setIfInBounds_toArray, List.set_cons_zero, List.set_cons_succ])
    refine' tk_any 4 24 (v := _) ?hi42003 ?hd42003 (by kernel_rfl) (by kernel_rfl) (by kernel_rfl) (fun _ _ _ h => h) ?hy42003 hHeld ?hr42003
    case hi42003 => (simp only [List.getElem?_toArray, List.getElem?_cons_succ, List.getElem?_cons_zero]; rfl)
    case hd42003 => rfl
    case hy42003 =>
      refine' Or.inl ⟨?hw42003, ?hx42003⟩
      case hw42003 => rfl
      case hx42003 => (intro w hSw; (try dsimp only at hSw); go_simp; (try with_reducible rfl))
    (try simp only [Act.put, List.setIfInBounds_toArray, List.set_cons_zero, List.set_cons_succ])
    refine' tk_any 6 26 (v := _) ?hi42004 ?hd42004 (by kernel_rfl) (by kernel_rfl) (by kernel_rfl) (fun _ _ _ h => h) ?hy42004 hHeld ?hr42004
    case hi42004 => (simp only [List.getElem?_toArray, List.getElem?_cons_succ, List.getElem?_cons_zero]; rfl)
    case hd42004 => rfl
    case hy42004 =>
      refine' Or.inl ⟨?hw42004, ?hx42004⟩
      case hw42004 => rfl
      case hx42004 => (intro w hSw; (try dsimp only at hSw); go_simp; (try with_reducible rfl))
    (try simp only [Act.put, List.setIfInBounds_toArray, List.set_cons_zero, List.set_cons_succ])
    refine' tk_call 2 ?hi42005 (by kernel_rfl) ?hr42005
    case hi42005 => (simp only [List.getElem?_toArray, List.getElem?_cons_succ, List.getElem?_cons_zero]; rfl)
    intro K hK
    go_simp
    go_at_call 15
    refine (pand_go _ _ a b c d n m ⟨nv, l⟩ ⟨mv, k⟩ _ (by omega) HN.out HM.out HF.out HG.out).mono ?_
    rintro e A1 ⟨⟨v, rfl, Apa, Apc, rfl, hf⟩, hb⟩
    replace HF := Lib.hid (HF.out.below hb)
    replace HG := Lib.hid (HG.out.below hb)
    replace HX := Lib.hid (HX.out.keep hb)
    replace HY := Lib.hid (HY.out.keep hb)
    replace HL := Lib.hid (HL.out.trans (hb.mono HL.out.size))
    rw [← HR.out] at hf ⊢
    have HAp := Lib.hid hf
    clear hf
    clear hb
    go_wp2_with fail
    clear hHeld
    refine hK.out _ _ (by (try dsimp only); exact ⟨⟨HX.out.c0, HX.out.c1⟩, HY.out.c0, HY.out.c1⟩) (fun hHeld => ?_)
    clear hK K
    (try simp only [Act.put, List.setIfInBounds_toArray, List.set_cons_zero, List.set_cons_succ])
    refine' tk_call 3 ?hi42006 (by kernel_rfl) ?hr42006
    case hi42006 => (simp only [List.getElem?_toArray, List.getElem?_cons_succ, List.getElem?_cons_zero]; rfl)
    intro K hK
    go_simp
    go_at_call 14
    refine (to_go _ Apa Apc R.l.length R.never R.l _ HRL.out rfl HAp.out).mono ?_
    rintro e A2 ⟨⟨v, rfl, Aqa, Aqc, rfl, hf⟩, hb⟩
    replace HF := Lib.hid (HF.out.below hb)
    replace HG := Lib.hid (HG.out.below hb)
    replace HAp := Lib.hid (HAp.out.below hb)
    replace HX := Lib.hid (HX.out.keep hb)
    replace HY := Lib.hid (HY.out.keep hb)
    replace HL := Lib.hid (HL.out.trans (hb.mono HL.out.size))
    have HAq := Lib.hid hf
    clear hf
    clear hb
    go_wp2_with fail
    clear hHeld
    refine hK.out _ _ (by (try dsimp only); exact ⟨⟨HX.out.c0, HX.out.c1⟩, HY.out.c0, HY.out.c1⟩) (fun hHeld => ?_)
    clear hK K
    (try simp only [Act.put, List.setIfInBounds_toArray, List.set_cons_zero, List.set_cons_succ])
    refine' tk_call 5 ?hi42007 (by kernel_rfl) ?hr42007
    case hi42007 => (simp only [List.getElem?_toArray, List.getElem?_cons_succ, List.getElem?_cons_zero]; rfl)
    intro K hK
    go_simp
    go_at_call 14
    refine (to_go _ a c n nv l _ (by omega) HN.out HF.out).mono ?_
    rintro e A3 ⟨⟨v, rfl, Ara, Arc, rfl, hf⟩, hb⟩
    replace HF := Lib.hid (HF.out.below hb)
    replace HG := Lib.hid (HG.out.below hb)
    replace HAp := Lib.hid (HAp.out.below hb)
    replace HAq := Lib.hid (HAq.out.below hb)
    replace HX := Lib.hid (HX.out.keep hb)
    replace HY := Lib.hid (HY.out.keep hb)
    replace HL := Lib.hid (HL.out.trans (hb.mono HL.out.size))
    have HAr := Lib.hid hf
    clear hf
    clear hb
    go_wp2_with fail
    clear hHeld
    refine hK.out _ _ (by (try dsimp only); exact ⟨⟨HX.out.c0, HX.out.c1⟩, HY.out.c0, HY.out.c1⟩) (fun hHeld => ?_)
    clear hK K
    (try simp only [Act.put, List.setIfInBounds_toArray, List.set_cons_zero, List.set_cons_succ])
    refine' tk_call 7 ?hi42008 (by kernel_rfl) ?hr42008
    case hi42008 => (simp only [List.getElem?_toArray, List.getElem?_cons_succ, List.getElem?_cons_zero]; rfl)
    intro K hK
    go_simp
    go_at_call 14
    refine (to_go _ b d m mv k _ (by omega) HM.out HG.out).mono ?_
    rintro e A4 ⟨⟨v, rfl, Asa, Asc, rfl, hf⟩, hb⟩
    replace HF := Lib.hid (HF.out.below hb)
    replace HG := Lib.hid (HG.out.below hb)
    replace HAp := Lib.hid (HAp.out.below hb)
    replace HAq := Lib.hid (HAq.out.below hb)
    replace HAr := Lib.hid (HAr.out.below hb)
    replace HX := Lib.hid (HX.out.keep hb)
    replace HY := Lib.hid (HY.out.keep hb)
    replace HL := Lib.hid (HL.out.trans (hb.mono HL.out.size))
    have HAs := Lib.hid hf
    clear hf
    clear hb
    go_wp2_with fail
    clear hHeld
    refine hK.out _ _ (by (try dsimp only); exact ⟨⟨HX.out.c0, HX.out.c1⟩, HY.out.c0, HY.out.c1⟩) (fun hHeld => ?_)
    clear hK K
    (try simp only [Act.put, List.setIfInBounds_toArray, List.set_cons_zero, List.set_cons_succ])
    refine' tk_call 8 ?hi42009 (by kernel_rfl) ?hr42009
    case hi42009 => (simp only [List.getElem?_toArray, List.getElem?_cons_succ, List.getElem?_cons_zero]; rfl)
    intro K hK
    go_simp
    go_at_call 16
    refine (and_go _ _ Ara Asa Arc Asc l.length k.length ⟨nv, l⟩ ⟨mv, k⟩ _ (by have := HN.out; have := HM.out; omega) rfl rfl HAr.out HAs.out).mono ?_
    rintro e A5 ⟨⟨v, rfl, Ata, Atc, rfl, hf⟩, hb⟩
    replace HF := Lib.hid (HF.out.below hb)
    replace HG := Lib.hid (HG.out.below hb)
    replace HAp := Lib.hid (HAp.out.below hb)
    replace HAq := Lib.hid (HAq.out.below hb)
    replace HAr := Lib.hid (HAr.out.below hb)
    replace HAs := Lib.hid (HAs.out.below hb)
    replace HX := Lib.hid (HX.out.keep hb)
    replace HY := Lib.hid (HY.out.keep hb)
    replace HL := Lib.hid (HL.out.trans (hb.mono HL.out.size))
    rw [← HR.out] at hf ⊢
    have HAt := Lib.hid hf
    clear hf
    clear hb
    go_wp2_with fail
    clear hHeld
    refine hK.out _ _ (by (try dsimp only); exact ⟨⟨HX.out.c0, HX.out.c1⟩, HY.out.c0, HY.out.c1⟩) (fun hHeld => ?_)
    clear hK K
    (try simp only [Act.put, List.setIfInBounds_toArray, List.set_cons_zero, List.set_cons_succ])
    refine' tk_call 9 ?hi42010 (by kernel_rfl) ?hr42010
    case hi42010 => (simp only [List.getElem?_toArray, List.getElem?_cons_succ, List.getElem?_cons_zero]; rfl)
    intro K hK
    go_simp
    go_at_call 13
    refine (fsame_go _ _ Aqa Ata Aqc Atc R.l.length R.never R.l _ (Nat.le_trans HRL.out (by decide)) rfl HAq.out HAt.out).mono ?_
    rintro e A6 ⟨rfl, hb⟩
    replace HF := Lib.hid (HF.out.below hb)
    replace HG := Lib.hid (HG.out.below hb)
    replace HAp := Lib.hid (HAp.out.below hb)
    replace HAq := Lib.hid (HAq.out.below hb)
    replace HAr := Lib.hid (HAr.out.below hb)
    replace HAs := Lib.hid (HAs.out.below hb)
    replace HAt := Lib.hid (HAt.out.below hb)
    replace HX := Lib.hid (HX.out.keep hb)
    replace HY := Lib.hid (HY.out.keep hb)
    replace HL := Lib.hid (HL.out.trans (hb.mono HL.out.size))
    clear hb
    go_wp2_with fail
    clear hHeld
    refine hK.out _ _ (by (try dsimp only); exact ⟨⟨HX.out.c0, HX.out.c1⟩, HY.out.c0, HY.out.c1⟩) (fun hHeld => ?_)
    clear hK K
    (try simp only [Act.put, List.setIfInBounds_toArray, List.set_cons_zero, List.set_cons_succ])
    refine' tk_any 10 6 (v := _) ?hi42011 ?hd42011 (by kernel_rfl) (by kernel_rfl) (by kernel_rfl) (fun _ _ _ h => h) ?hy42011 hHeld ?hr42011
    case hi42011 => (simp only [List.getElem?_toArray, List.getElem?_cons_succ, List.getElem?_cons_zero]; rfl)
    case hd42011 => rfl
    case hy42011 =>
      refine' Or.inl ⟨?hw42011, ?hx42011⟩
      case hw42011 => rfl
      case hx42011 => (intro w hSw; (try dsimp only at hSw); go_simp; (try with_reducible rfl))
    (try simp only [Act.put, List.setIfInBounds_toArray, List.set_cons_zero, List.set_cons_succ])
    refine wpAnyH_done (by kernel_rfl) ?_ _
    refine NoPanic.normal ?_
    clear HR HRL
    have x0 := HX.out.c0
    have x1 := HX.out.c1
    have y0 := HY.out.c0
    have y1 := HY.out.c1
    go_upto_region 5 with fail
    obtain ⟨R, hR⟩ : ∃ R, R = orF ⟨nv, l⟩ ⟨mv, k⟩ := ⟨_, rfl⟩
    have HRL := Lib.hid (show R.l.length ≤ 10000 by rw [hR]; have := orF_len ⟨nv, l⟩ ⟨mv, k⟩; have h1 := HN.out; have h2 := HM.out; simp only at this; omega)
    have HR := Lib.hid hR
    clear hR
    have hb : Below A6.heap.size A6 A6.drew := (Below.refl _ _).drew
    replace HF := Lib.hid (HF.out.below hb)
    replace HG := Lib.hid (HG.out.below hb)
    replace HX := Lib.hid (HX.out.keep hb)
    replace HY := Lib.hid (HY.out.keep hb)
    replace HL := Lib.hid (HL.out.trans (hb.mono HL.out.size))
    clear hb x0 x1 y0 y1
    (try dsimp only [List.append])
    refine wp_region_noPanic ?_
    refine wp_region_held_drew (S := (fun w' => (w'.cell? ⟨w.heap.size, 0, none⟩ = some (.bool nv) ∧ w'.cell? ⟨w.heap.size, 1, none⟩ = some (.slice a n c)) ∧ w'.cell? ⟨w.heap.size + 1, 0, none⟩ = some (.bool mv) ∧ w'.cell? ⟨w.heap.size + 1, 1, none⟩ = some (.slice b m d))) (by kernel_rfl) (by (try dsimp only); exact ⟨⟨HX.out.c0, HX.out.c1⟩, HY.out.c0, HY.out.c1⟩) (fun hHeld => ?_)
    generalize A6.drew = O0 at hHeld HX HY HL HF HG ⊢
    refine' tk_any 0 30 (v := _) ?hi42012 ?hd42012 (by kernel_rfl) (by kernel_rfl) (by kernel_rfl) (fun _ _ _ h => h) ?hy42012 hHeld ?hr42012
    case hi42012 => (simp only [List.getElem?_toArray, List.getElem?_cons_zero]; rfl)
    case hd42012 => rfl
    case hy42012 =>
      refine' Or.inl ⟨?hw42012, ?hx42012⟩
      case hw42012 => rfl
      case hx42012 => (intro w hSw; (try dsimp only at hSw); go_simp; (try with_reducible rfl))
    (try simp only [Act.put, List.setIfInBounds_toArray, List.set_cons_zero, List.set_cons_succ])
    refine' tk_any 1 31 (v := _) ?hi42013 ?hd42013 (by kernel_rfl) (by kernel_rfl) (by kernel_rfl) (fun _ _ _ h => h) ?hy42013 hHeld ?hr42013
    case hi42013 => (simp only [List.getElem?_toArray, List.getElem?_cons_succ, List.getElem?_cons_zero]; rfl)
    case hd42013 => rfl
    case hy42013 =>
      refine' Or.inl ⟨?hw42013, ?hx42013⟩
      case hw42013 => rfl
      case hx42013 => (intro w hSw; (try dsimp only at hSw); go_simp; (try with_reducible rfl))
    (try simp only [Act.put, List.setIfInBounds_toArray, List.set_cons_zero, List.set_cons_succ])
    refine' tk_any 4 34 (v := _) ?hi42014 ?hd42014 (by kernel_rfl) (by kernel_rfl) (by kernel_rfl) (fun _ _ _ h => h) ?hy42014 hHeld ?hr42014
    case hi42014 => (simp only [List.getElem?_toArray, List.getElem?_cons_succ, List.getElem?_cons_zero]; rfl)
    case hd42014 => rfl
    case hy42014 =>
      refine' Or.inl ⟨?hw42014, ?hx42014⟩
      case hw42014 => rfl
      case hx42014 => (intro w hSw; (try dsimp only at hSw); go_simp; (try with_reducible rfl))
    (try simp only [Act.put, List.setIfInBounds_toArray, List.set_cons_zero, List.set_cons_succ])
    refine' tk_any 6 36 (v := _) ?hi42015 ?hd42015 (by kernel_rfl) (by kernel_rfl) (by kernel_rfl) (fun _ _ _ h => h) ?hy42015 hHeld ?hr42015
    case hi42015 => (simp only [List.getElem?_toArray, List.getElem?_cons_succ, List.getElem?_cons_zero]; rfl)
    case hd42015 => rfl
    case hy42015 =>
      refine' Or.inl ⟨?hw42015, ?hx42015⟩
      case hw42015 => rfl
      case hx42015 => (intro w hSw; (try dsimp only at hSw); go_simp; (try with_reducible rfl))
    (try simp only [Act.put, List.setIfInBounds_toArray, List.set_cons_zero, List.set_cons_succ])
    refine' tk_call 2 ?hi42016 (by kernel_rfl) ?hr42016
    case hi42016 => (simp only [List.getElem?_toArray, List.getElem?_cons_succ, List.getElem?_cons_zero]; rfl)
    intro K hK
    go_simp
    go_at_call 17
    refine (por_go _ _ a b c d n m ⟨nv, l⟩ ⟨mv, k⟩ _ (by omega) HN.out HM.out HF.out HG.out).mono ?_
    rintro e O1 ⟨⟨v, rfl, Opa, Opc, rfl, hf⟩, hb⟩
    replace HF := Lib.hid (HF.out.below hb)
    replace HG := Lib.hid (HG.out.below hb)
    replace HX := Lib.hid (HX.out.keep hb)
    replace HY := Lib.hid (HY.out.keep hb)
    replace HL := Lib.hid (HL.out.trans (hb.mono HL.out.size))
    rw [← HR.out] at hf ⊢
    have HOp := Lib.hid hf
    clear hf
    clear hb
    go_wp2_with fail
    clear hHeld
    refine hK.out _ _ (by (try dsimp only); exact ⟨⟨HX.out.c0, HX.out.c1⟩, HY.out.c0, HY.out.c1⟩) (fun hHeld => ?_)
    clear hK K
    (try simp only [Act.put, List.setIfInBounds_toArray, List.set_cons_zero, List.set_cons_succ])
    refine' tk_call 3 ?hi42017 (by kernel_rfl) ?hr42017
    case hi42017 => (simp only [List.getElem?_toArray, List.getElem?_cons_succ, List.getElem?_cons_zero]; rfl)
    intro K hK
    go_simp
    go_at_call 14
    refine (to_go _ Opa Opc R.l.length R.never R.l _ HRL.out rfl HOp.out).mono ?_
    rintro e O2 ⟨⟨v, rfl, Oqa, Oqc, rfl, hf⟩, hb⟩
    replace HF := Lib.hid (HF.out.below hb)
    replace HG := Lib.hid (HG.out.below hb)
    replace HOp := Lib.hid (HOp.out.below hb)
    replace HX := Lib.hid (HX.out.keep hb)
    replace HY := Lib.hid (HY.out.keep hb)
    replace HL := Lib.hid (HL.out.trans (hb.mono HL.out.size))
    have HOq := Lib.hid hf
    clear hf
    clear hb
    go_wp2_with fail
    clear hHeld
    refine hK.out _ _ (by (try dsimp only); exact ⟨⟨HX.out.c0, HX.out.c1⟩, HY.out.c0, HY.out.c1⟩) (fun hHeld => ?_)
    clear hK K
    (try simp only [Act.put, List.setIfInBounds_toArray, List.set_cons_zero, List.set_cons_succ])
    refine' tk_call 5 ?hi42018 (by kernel_rfl) ?hr42018
    case hi42018 => (simp only [List.getElem?_toArray, List.getElem?_cons_succ, List.getElem?_cons_zero]; rfl)
    intro K hK
    go_simp
    go_at_call 14
    refine (to_go _ a c n nv l _ (by omega) HN.out HF.out).mono ?_
    rintro e O3 ⟨⟨v, rfl, Ora, Orc, rfl, hf⟩, hb⟩
    replace HF := Lib.hid (HF.out.below hb)
    replace HG := Lib.hid (HG.out.below hb)
    replace HOp := Lib.hid (HOp.out.below hb)
    replace HOq := Lib.hid (HOq.out.below hb)
    replace HX := Lib.hid (HX.out.keep hb)
    replace HY := Lib.hid (HY.out.keep hb)
    replace HL := Lib.hid (HL.out.trans (hb.mono HL.out.size))
    have HOr := Lib.hid hf
    clear hf
    clear hb
    go_wp2_with fail
    clear hHeld
    refine hK.out _ _ (by (try dsimp only); exact ⟨⟨HX.out.c0, HX.out.c1⟩, HY.out.c0, HY.out.c1⟩) (fun hHeld => ?_)
    clear hK K
    (try simp only [Act.put, List.setIfInBounds_toArray, List.set_cons_zero, List.set_cons_succ])
    refine' tk_call 7 ?hi42019 (by kernel_rfl) ?hr42019
    case hi42019 => (simp only [List.getElem?_toArray, List.getElem?_cons_succ, List.getElem?_cons_zero]; rfl)
    intro K hK
    go_simp
    go_at_call 14
    refine (to_go _ b d m mv k _ (by omega) HM.out HG.out).mono ?_
    rintro e O4 ⟨⟨v, rfl, Osa, Osc, rfl, hf⟩, hb⟩
    replace HF := Lib.hid (HF.out.below hb)
    replace HG := Lib.hid (HG.out.below hb)
    replace HOp := Lib.hid (HOp.out.below hb)
    replace HOq := Lib.hid (HOq.out.below hb)
    replace HOr := Lib.hid (HOr.out.below hb)
    replace HX := Lib.hid (HX.out.keep hb)
    replace HY := Lib.hid (HY.out.keep hb)
    replace HL := Lib.hid (HL.out.trans (hb.mono HL.out.size))
    have HOs := Lib.hid hf
    clear hf
    clear hb
    go_wp2_with fail
    clear hHeld
    refine hK.out _ _ (by (try dsimp only); exact ⟨⟨HX.out.c0, HX.out.c1⟩, HY.out.c0, HY.out.c1⟩) (fun hHeld => ?_)
    clear hK K
    (try simp only [Act.put, List.setIfInBounds_toArray, List.set_cons_zero, List.set_cons_succ])
    refine' tk_call 8 ?hi42020 (by kernel_rfl) ?hr42020
    case hi42020 => (simp only [List.getElem?_toArray, List.getElem?_cons_succ, List.getElem?_cons_zero]; rfl)
    intro K hK
    go_simp
    go_at_call 18
    refine (or_go _ _ Ora Osa Orc Osc l.length k.length ⟨nv, l⟩ ⟨mv, k⟩ _ (by have := HN.out; have := HM.out; omega) rfl rfl HOr.out HOs.out).mono ?_
    rintro e O5 ⟨⟨v, rfl, Ota, Otc, rfl, hf⟩, hb⟩
    replace HF := Lib.hid (HF.out.below hb)
    replace HG := Lib.hid (HG.out.below hb)
    replace HOp := Lib.hid (HOp.out.below hb)
    replace HOq := Lib.hid (HOq.out.below hb)
    replace HOr := Lib.hid (HOr.out.below hb)
    replace HOs := Lib.hid (HOs.out.below hb)
    replace HX := Lib.hid (HX.out.keep hb)
    replace HY := Lib.hid (HY.out.keep hb)
    replace HL := Lib.hid (HL.out.trans (hb.mono HL.out.size))
    rw [← HR.out] at hf ⊢
    have HOt := Lib.hid hf
    clear hf
    clear hb
    go_wp2_with fail
    clear hHeld
    refine hK.out _ _ (by (try dsimp only); exact ⟨⟨HX.out.c0, HX.out.c1⟩, HY.out.c0, HY.out.c1⟩) (fun hHeld => ?_)
    clear hK K
    (try simp only [Act.put, List.setIfInBounds_toArray, List.set_cons_zero, List.set_cons_succ])
    refine' tk_call 9 ?hi42021 (by kernel_rfl) ?hr42021
    case hi42021 => (simp only [List.getElem?_toArray, List.getElem?_cons_succ, List.getElem?_cons_zero]; rfl)
    intro K hK
    go_simp
    go_at_call 13
    refine (fsame_go _ _ Oqa Ota Oqc Otc R.l.length R.never R.l _ (Nat.le_trans HRL.out (by decide)) rfl HOq.out HOt.out).mono ?_
    rintro e O6 ⟨rfl, hb⟩
    replace HF := Lib.hid (HF.out.below hb)
    replace HG := Lib.hid (HG.out.below hb)
    replace HOp := Lib.hid (HOp.out.below hb)
    replace HOq := Lib.hid (HOq.out.below hb)
    replace HOr := Lib.hid (HOr.out.below hb)
    replace HOs := Lib.hid (HOs.out.below hb)
    replace HOt := Lib.hid (HOt.out.below hb)
    replace HX := Lib.hid (HX.out.keep hb)
    replace HY := Lib.hid (HY.out.keep hb)
    replace HL := Lib.hid (HL.out.trans (hb.mono HL.out.size))
    clear hb
    go_wp2_with fail
    clear hHeld
    refine hK.out _ _ (by (try dsimp only); exact ⟨⟨HX.out.c0, HX.out.c1⟩, HY.out.c0, HY.out.c1⟩) (fun hHeld => ?_)
    clear hK K
    (try simp only [Act.put, List.setIfInBounds_toArray, List.set_cons_zero, List.set_cons_succ])
    refine' tk_any 10 7 (v := _) ?hi42022 ?hd42022 (by kernel_rfl) (by kernel_rfl) (by kernel_rfl) (fun _ _ _ h => h) ?hy42022 hHeld ?hr42022
    case hi42022 => (simp only [List.getElem?_toArray, List.getElem?_cons_succ, List.getElem?_cons_zero]; rfl)
    case hd42022 => rfl
    case hy42022 =>
      refine' Or.inl ⟨?hw42022, ?hx42022⟩
      case hw42022 => rfl
      case hx42022 => (intro w hSw; (try dsimp only at hSw); go_simp; (try with_reducible rfl))
    (try simp only [Act.put, List.setIfInBounds_toArray, List.set_cons_zero, List.set_cons_succ])
    refine wpAnyH_done (by kernel_rfl) ?_ _
    refine NoPanic.normal ?_
    clear HR HRL
    go_wp2
    refine bodyPost_ret (v := .bool true) ?_ ?_ ?_
    · simp [results, Try.results4, go_sem]
    · rfl
    · exact ⟨rfl, HL.out⟩
  · go_wp2
    all_goals
      refine bodyPost_ret (v := .bool true) ?_ ?_ ?_
      · simp [results, Try.results4, go_sem]
      · rfl
      · exact ⟨rfl, HL.out⟩
end Go.Proofs.Ytgjkobkcmgliaaa

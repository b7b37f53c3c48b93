import Derived.Test.YtgjkobkcmgliaaaNwE
namespace Go.Proofs.Ytgjkobkcmgliaaa
open Go.RowKit

/-- the copy that is being made -/
def ToRel (N rb : Nat) (nv : Bool) (l : List (Int × Int)) (w0 : World) (iv : Value) (wr : World) : Prop :=
  ∃ (i : Nat) (a : Option Addr) (cp : Nat), i ≤ N ∧ iv = .int .i64 i ∧ Hid (Bx wr rb 36 #[.bool nv, .slice a i cp]) ∧ Hid (wr.ownsRow w0.heap.size 76 2 (.slice a i cp) i (fasCells (l.take i))) ∧ Hid (But rb w0 wr)
theorem to_end {N rb i gg cap' : Nat} {nv : Bool} {l : List (Int × Int)} {w0 w9 : World} {iv rv : Value} {x y : Int} (hi : i < N) (hN : N = l.length) (hx : (l.getD i fa0).1 = x) (hy : (l.getD i fa0).2 = y) (h9 : But rb w0 w9) (hbb : Bx w9 rb 36 #[.bool nv, rv])
    (ho : w9.ownsRow w0.heap.size 76 2 (.slice (some ⟨gg, 0, none⟩) (i + 1) cap') (i + 1) (fasCells (l.take i) ++ [.int .i64 x, .int .i64 y])) (hgr : gg ≠ rb) (hiv : iv = .int .i64 ((i + 1 : Nat) : Int)) :
    ToRel N rb nv l w0 iv (w9.setCell ⟨rb, 1, none⟩ (.slice (some ⟨gg, 0, none⟩) (i + 1) cap')) ∧ N - (intOf iv).toNat < N - i := by
  have e : l.take (i + 1) = l.take i ++ [(x, y)] := by
    have e0 : l.getD i fa0 = l[i]'(by omega) := by simp [List.getD_eq_getElem?_getD, show i < l.length by omega]
    rw [List.take_succ_eq_append_getElem (by omega : i < l.length), ← hx, ← hy, e0]
  refine ⟨⟨i + 1, some ⟨gg, 0, none⟩, cap', hi, hiv, Lib.hid (hbb.set 1 _), Lib.hid ?_, Lib.hid (h9.set 1 _)⟩, by rw [hiv]; simp [intOf]; omega⟩
  rw [e, fasCells_snoc]
  exact own_block ho fun g' hg' => by cases hg'; exact Below.heap_setCell _ _ _ _ (by exact hgr)

set_option maxRecDepth 100000 in
set_option maxHeartbeats 16000000 in
theorem to_go (B : Nat) (a : Option Addr) (c n : Nat) (nv : Bool) (l : List (Int × Int)) (w : World) (hm : n ≤ 10000) (hn : n = l.length) (hr : FaB B w (.slice a n c) l) :
    Calls Try.prog 14 #[.agg #[.bool nv, .slice a n c]] w (FcPost ⟨nv, l⟩ w) := by
  obtain ⟨i0, hi, hz0, hz1, hz2⟩ := info_parts Try.infoFaR
  have HN := Lib.hid hn
  have b1 : (n : Int) ≤ 10000 := by omega
  obtain ⟨w1, hW⟩ : ∃ W, W = ((w.alloc (.cells #[.bool nv, .slice a n c] 30)).alloc (.cells #[.bool false, .slice none 0 0] 36)).alloc (.cells #[.bool nv, .slice none 0 0] 36) := ⟨_, rfl⟩
  have hbx : Bx w1 w.heap.size 30 #[.bool nv, .slice a n c] := by rw [hW]; exact alloc_past (alloc_past (alloc_at rfl) (by simp)) (by simp <;> omega)
  have hbr : Bx w1 (w.heap.size + 1) 36 #[.bool false, .slice none 0 0] := by rw [hW]; exact alloc_past (alloc_at (by simp)) (by simp)
  have hbo : Bx w1 (w.heap.size + 1 + 1) 36 #[.bool nv, .slice none 0 0] := by rw [hW]; exact alloc_at (by simp)
  have hbl : Below w.heap.size w w1 := by rw [hW]; exact (((Below.refl _ _).alloc (Nat.le_refl _) _).alloc (by simp) _).alloc (by simp <;> omega) _
  have hsz : w1.heap.size = w.heap.size + 1 + 1 + 1 := by rw [hW]; simp
  have HX := Lib.hid hbx
  have HR := Lib.hid hbr
  have HO := Lib.hid hbo
  have HL := Lib.hid hbl
  have HF := Lib.hid hr
  have HSZ := Lib.hid hsz
  have HW := Lib.hid hW
  clear hbx hbr hbo hbl hr hsz hW hn
  go_enter Try.func14, Try.ntmps14
  go_wp2
  rw [← HW.out]
  go_loopw [4] (fun iv wr => ToRel n (w.heap.size + 1 + 1) nv l w1 iv wr) (fun iv _ => n - (intOf iv).toNat)
  case atStart => exact ⟨0, none, 0, Nat.zero_le _, rfl, HO, Lib.hid (World.ownsRow_nil _ _ _ _), Lib.hid (But.refl _ _)⟩
  case round =>
    obtain ⟨i, ra, rc, hi1, rfl, HRB, HROW, HRL⟩ := hrel
    have hxr := (HX.out.but HRL.out (by omega))
    have px1 : wr.cell? ⟨w.heap.size, 1, none⟩ = some (.slice a n c) := hxr.c1
    have hs1 : w.heap.size + 1 + 1 < w1.heap.size := by rw [HSZ.out]; omega
    by_cases hlt : i < n
    · have hil : i < l.length := by rw [← HN.out]; exact hlt
      obtain ⟨q, off, rfl, _, hq2, hc0, hc1⟩ := HF.out.get hil
      obtain ⟨x, hx⟩ : ∃ x, (l.getD i fa0).1 = x := ⟨_, rfl⟩
      obtain ⟨y, hy⟩ : ∃ y, (l.getD i fa0).2 = y := ⟨_, rfl⟩
      rw [hx] at hc0
      rw [hy] at hc1
      have HBW0 := Lib.hid (HL.out.trans (HRL.out.below (B := w.heap.size) (by omega) (by omega)))
      have hci : wr.cell? ⟨q, off + i * 2, none⟩ = some (.int .i64 x) := (HBW0.out.cell (p := ⟨q, _, none⟩) hq2).trans hc0
      have hcj : wr.cell? ⟨q, off + i * 2 + 1, none⟩ = some (.int .i64 y) := (HBW0.out.cell (p := ⟨q, _, none⟩) hq2).trans hc1
      have hcb : wr.cell? ⟨w.heap.size + 1 + 1, 1, none⟩ = some (.slice ra i rc) := HRB.out.c1
      have HXO := Lib.hid hx
      have HYO := Lib.hid hy
      have HXR := Lib.hid hxr
      have h0 : (0 : Int) ≤ (i : Int) := Int.natCast_nonneg _
      have h1 : (i : Int) < (n : Int) := by omega
      have bI : (i : Int) ≤ 10000 := by omega
      have HOL := Lib.hid (show ∀ g, Value.ownBlock (.slice ra i rc) = some g → w1.heap.size ≤ g from fun g hg => (HROW.out.lt g hg).1)
      have HRQ := Lib.hid hs1
      have HWQ := Lib.hid (show w1.heap.size ≤ wr.heap.size from HRL.out.size)
      have hqw : q < wr.heap.size := Nat.lt_of_lt_of_le hq2 (by have := HL.out.size; have := HRL.out.size; omega)
      have hqr : q ≠ w.heap.size + 1 + 1 := by omega
      have hq3 : q < w1.heap.size := by have := HL.out.size; omega
      obtain ⟨X, hX⟩ : ∃ X, X = fasCells (l.take i) := ⟨_, rfl⟩
      have HXC := Lib.hid hX
      have HOWQ := HROW
      rw [← hX] at HOWQ
      have HC1 := Lib.hid (show w1.cell? ⟨q, off + i * 2, none⟩ = some (.int .i64 x) ∧ w1.cell? ⟨q, off + i * 2 + 1, none⟩ = some (.int .i64 y) from ⟨(HL.out.cell (p := ⟨q, _, none⟩) hq2).trans hc0, (HL.out.cell (p := ⟨q, _, none⟩) hq2).trans hc1⟩)
      clear hx hy hxr hc0 hc1 hil hX
      go_upto_region 5 with fail
      (try dsimp only [List.append])
      refine wp_region_noPanic ?_
      refine wp_region_held_drew (S := (fun w' => w'.cell? ⟨w.heap.size, 1, none⟩ = some (.slice (some ⟨q, off, none⟩) n c) ∧ w'.cell? ⟨q, off + i * 2, none⟩ = some (.int .i64 x) ∧ w'.cell? ⟨q, off + i * 2 + 1, none⟩ = some (.int .i64 y))) (by kernel_rfl) (by (try dsimp only); exact ⟨px1, hci, hcj⟩) (fun hHeld => ?_)
      refine' tk_any 0 15 (v := _) ?hi2001 ?hd2001 (by kernel_rfl) (by kernel_rfl) (by kernel_rfl) (fun _ _ _ h => h) ?hy2001 hHeld ?hr2001
      case hi2001 => (simp only [List.getElem?_toArray, List.getElem?_cons_zero]; rfl)
      case hd2001 => rfl
      case hy2001 =>
        refine' Or.inl ⟨?hw2001, ?hx2001⟩
        case hw2001 => rfl
        case hx2001 => (intro w hSw; (try dsimp only at hSw); go_simp; (try with_reducible rfl))
      (try simp only [Act.put, List.setIfInBounds_toArray, List.set_cons_zero, List.set_cons_succ])
      refine' tk_any 2 17 (v := _) ?hi2002 ?hd2002 (by kernel_rfl) (by kernel_rfl) (by kernel_rfl) (fun _ _ _ h => h) ?hy2002 hHeld ?hr2002
      case hi2002 => (simp only [List.getElem?_toArray, List.getElem?_cons_succ, List.getElem?_cons_zero]; rfl)
      case hd2002 => rfl
      case hy2002 =>
        refine' Or.inl ⟨?hw2002, ?hx2002⟩
        case hw2002 => rfl
        case hx2002 => (intro w hSw; (try dsimp only at hSw); go_simp; (try with_reducible rfl))
      (try simp only [Act.put, List.setIfInBounds_toArray, List.set_cons_zero, List.set_cons_succ])
      refine' tk_any 3 18 (v := _) ?hi2003 ?hd2003 (by kernel_rfl) (by kernel_rfl) (by kernel_rfl) (fun _ _ _ h => h) ?hy2003 hHeld ?hr2003
      case hi2003 => (simp only [List.getElem?_toArray, List.getElem?_cons_succ, List.getElem?_cons_zero]; rfl)
      case hd2003 => rfl
      case hy2003 =>
        refine' Or.inl ⟨?hw2003, ?hx2003⟩
        case hw2003 => rfl
        case hx2003 => (intro w hSw; (try dsimp only at hSw); go_simp; (try with_reducible rfl))
      (try simp only [Act.put, List.setIfInBounds_toArray, List.set_cons_zero, List.set_cons_succ])
      refine' tk_any 4 19 (v := _) ?hi2004 ?hd2004 (by kernel_rfl) (by kernel_rfl) (by kernel_rfl) (fun _ _ _ h => h) ?hy2004 hHeld ?hr2004
      case hi2004 => (simp only [List.getElem?_toArray, List.getElem?_cons_succ, List.getElem?_cons_zero]; rfl)
      case hd2004 => rfl
      case hy2004 =>
        refine' Or.inl ⟨?hw2004, ?hx2004⟩
        case hw2004 => rfl
        case hx2004 => (intro w hSw; (try dsimp only at hSw); go_simp; (try with_reducible rfl))
      (try simp only [Act.put, List.setIfInBounds_toArray, List.set_cons_zero, List.set_cons_succ])
      refine' tk_any 5 20 (v := _) ?hi2005 ?hd2005 (by kernel_rfl) (by kernel_rfl) (by kernel_rfl) (fun _ _ _ h => h) ?hy2005 hHeld ?hr2005
      case hi2005 => (simp only [List.getElem?_toArray, List.getElem?_cons_succ, List.getElem?_cons_zero]; rfl)
      case hd2005 => rfl
      case hy2005 =>
        refine' Or.inl ⟨?hw2005, ?hx2005⟩
        case hw2005 => rfl
        case hx2005 => (intro w hSw; (try dsimp only at hSw); go_simp; (try with_reducible rfl))
      (try simp only [Act.put, List.setIfInBounds_toArray, List.set_cons_zero, List.set_cons_succ])
      refine' tk_any 6 21 (v := _) ?hi2006 ?hd2006 (by kernel_rfl) (by kernel_rfl) (by kernel_rfl) (fun _ _ _ h => h) ?hy2006 hHeld ?hr2006
      case hi2006 => (simp only [List.getElem?_toArray, List.getElem?_cons_succ, List.getElem?_cons_zero]; rfl)
      case hd2006 => rfl
      case hy2006 =>
        refine' Or.inl ⟨?hw2006, ?hx2006⟩
        case hw2006 => rfl
        case hx2006 => (intro w hSw; (try dsimp only at hSw); go_simp; (try with_reducible rfl))
      (try simp only [Act.put, List.setIfInBounds_toArray, List.set_cons_zero, List.set_cons_succ])
      refine' tk_any 7 22 (v := _) ?hi2007 ?hd2007 (by kernel_rfl) (by kernel_rfl) (by kernel_rfl) (fun _ _ _ h => h) ?hy2007 hHeld ?hr2007
      case hi2007 => (simp only [List.getElem?_toArray, List.getElem?_cons_succ, List.getElem?_cons_zero]; rfl)
      case hd2007 => rfl
      case hy2007 =>
        refine' Or.inl ⟨?hw2007, ?hx2007⟩
        case hw2007 => rfl
        case hx2007 => (intro w hSw; (try dsimp only at hSw); go_simp; (try with_reducible rfl))
      (try simp only [Act.put, List.setIfInBounds_toArray, List.set_cons_zero, List.set_cons_succ])
      refine' tk_any 8 23 (v := _) ?hi2008 ?hd2008 (by kernel_rfl) (by kernel_rfl) (by kernel_rfl) (fun _ _ _ h => h) ?hy2008 hHeld ?hr2008
      case hi2008 => (simp only [List.getElem?_toArray, List.getElem?_cons_succ, List.getElem?_cons_zero]; rfl)
      case hd2008 => rfl
      case hy2008 =>
        refine' Or.inl ⟨?hw2008, ?hx2008⟩
        case hw2008 => rfl
        case hx2008 => (intro w hSw; (try dsimp only at hSw); go_simp; (try with_reducible rfl))
      (try simp only [Act.put, List.setIfInBounds_toArray, List.set_cons_zero, List.set_cons_succ])
      refine' tk_any 9 24 (v := _) ?hi2009 ?hd2009 (by kernel_rfl) (by kernel_rfl) (by kernel_rfl) (fun _ _ _ h => h) ?hy2009 hHeld ?hr2009
      case hi2009 => (simp only [List.getElem?_toArray, List.getElem?_cons_succ, List.getElem?_cons_zero]; rfl)
      case hd2009 => rfl
      case hy2009 =>
        refine' Or.inl ⟨?hw2009, ?hx2009⟩
        case hw2009 => rfl
        case hx2009 => (intro w hSw; (try dsimp only at hSw); go_simp; (try with_reducible rfl))
      (try simp only [Act.put, List.setIfInBounds_toArray, List.set_cons_zero, List.set_cons_succ])
      refine' tk_any 10 25 (v := _) ?hi2010 ?hd2010 (by kernel_rfl) (by kernel_rfl) (by kernel_rfl) (fun _ _ _ h => h) ?hy2010 hHeld ?hr2010
      case hi2010 => (simp only [List.getElem?_toArray, List.getElem?_cons_succ, List.getElem?_cons_zero]; rfl)
      case hd2010 => rfl
      case hy2010 =>
        refine' Or.inl ⟨?hw2010, ?hx2010⟩
        case hw2010 => rfl
        case hx2010 => (intro w hSw; (try dsimp only at hSw); go_simp; (try with_reducible rfl))
      (try simp only [Act.put, List.setIfInBounds_toArray, List.set_cons_zero, List.set_cons_succ])
      refine' tk_any 11 26 (v := _) ?hi2011 ?hd2011 (by kernel_rfl) (by kernel_rfl) (by kernel_rfl) (fun _ _ _ h => h) ?hy2011 hHeld ?hr2011
      case hi2011 => (simp only [List.getElem?_toArray, List.getElem?_cons_succ, List.getElem?_cons_zero]; rfl)
      case hd2011 => rfl
      case hy2011 =>
        refine' Or.inl ⟨?hw2011, ?hx2011⟩
        case hw2011 => rfl
        case hx2011 => (intro w hSw; (try dsimp only at hSw); go_simp; (try with_reducible rfl))
      (try simp only [Act.put, List.setIfInBounds_toArray, List.set_cons_zero, List.set_cons_succ])
      refine' tk_any 12 27 (v := _) ?hi2012 ?hd2012 (by kernel_rfl) (by kernel_rfl) (by kernel_rfl) (fun _ _ _ h => h) ?hy2012 hHeld ?hr2012
      case hi2012 => (simp only [List.getElem?_toArray, List.getElem?_cons_succ, List.getElem?_cons_zero]; rfl)
      case hd2012 => rfl
      case hy2012 =>
        refine' Or.inl ⟨?hw2012, ?hx2012⟩
        case hw2012 => rfl
        case hx2012 => (intro w hSw; (try dsimp only at hSw); go_simp; (try with_reducible rfl))
      (try simp only [Act.put, List.setIfInBounds_toArray, List.set_cons_zero, List.set_cons_succ])
      refine' tk_any 13 28 (v := _) ?hi2013 ?hd2013 (by kernel_rfl) (by kernel_rfl) (by kernel_rfl) (fun _ _ _ h => h) ?hy2013 hHeld ?hr2013
      case hi2013 => (simp only [List.getElem?_toArray, List.getElem?_cons_succ, List.getElem?_cons_zero]; rfl)
      case hd2013 => rfl
      case hy2013 =>
        refine' Or.inl ⟨?hw2013, ?hx2013⟩
        case hw2013 => rfl
        case hx2013 => (intro w hSw; (try dsimp only at hSw); go_simp; (try with_reducible rfl))
      (try simp only [Act.put, List.setIfInBounds_toArray, List.set_cons_zero, List.set_cons_succ])
      refine' tk_any 14 29 (v := _) ?hi2014 ?hd2014 (by kernel_rfl) (by kernel_rfl) (by kernel_rfl) (fun _ _ _ h => h) ?hy2014 hHeld ?hr2014
      case hi2014 => (simp only [List.getElem?_toArray, List.getElem?_cons_succ, List.getElem?_cons_zero]; rfl)
      case hd2014 => rfl
      case hy2014 =>
        refine' Or.inl ⟨?hw2014, ?hx2014⟩
        case hw2014 => rfl
        case hx2014 => (intro w hSw; (try dsimp only at hSw); go_simp; (try with_reducible rfl))
      (try simp only [Act.put, List.setIfInBounds_toArray, List.set_cons_zero, List.set_cons_succ])
      refine' tk_two 1 15 ?hi2023 ?hj2023 (by kernel_rfl) ?ha2023 ?hb2023
      case hi2023 => (simp only [List.getElem?_toArray, List.getElem?_cons_succ, List.getElem?_cons_zero]; rfl)
      case hj2023 => (simp only [List.getElem?_toArray, List.getElem?_cons_succ, List.getElem?_cons_zero]; rfl)
      case ha2023 =>
        intro K hK
        go_simp
        clear hHeld
        refine hK.out _ _ (by (try dsimp only); exact ⟨px1, hci, hcj⟩) (fun hHeld => ?_)
        clear hK K
        (try simp only [Act.put, List.setIfInBounds_toArray, List.set_cons_zero, List.set_cons_succ])
        refine' tk_call 15 ?hi2015 (by kernel_rfl) ?hr2015
        case hi2015 => (simp only [List.getElem?_toArray, List.getElem?_cons_succ, List.getElem?_cons_zero]; rfl)
        intro K hK
        go_simp
        obtain ⟨wA, hwA⟩ : ∃ wA : World, wA = (wr.alloc (.cells #[.int .i64 x, .int .i64 y] 76)).drew := ⟨_, rfl⟩
        rw [← hwA]
        have hAB : Below wr.heap.size wr wA := by rw [hwA]; exact ((Below.refl _ _).alloc (Nat.le_refl _) _).drew
        have hAp : wA.cell? ⟨w.heap.size, 1, none⟩ = some (.slice (some ⟨q, off, none⟩) n c) := (hAB.cell (p := ⟨_, 1, none⟩) HXR.out.lt).trans px1
        have hAi : wA.cell? ⟨q, off + i * 2, none⟩ = some (.int .i64 x) := (hAB.cell (p := ⟨q, _, none⟩) hqw).trans hci
        have hAj : wA.cell? ⟨q, off + i * 2 + 1, none⟩ = some (.int .i64 y) := (hAB.cell (p := ⟨q, _, none⟩) hqw).trans hcj
        have hAc : wA.cell? ⟨w.heap.size + 1 + 1, 1, none⟩ = some (.slice ra i rc) := (hAB.cell (p := ⟨_, 1, none⟩) HRB.out.lt).trans hcb
        have HNB := Lib.hid (show wA.heap[wr.heap.size]? = some (.cells #[.int .i64 x, .int .i64 y] 76 (0, 0)) by rw [hwA]; exact alloc_at (w := wr) rfl)
        have HOA := Lib.hid (own_block HOWQ.out (w' := wA) fun g' hg' => hAB.block g' (own_lt HOWQ.out hg'))
        have HW1 := Lib.hid (show w1.heap.size ≤ wA.heap.size from Nat.le_trans HWQ.out hAB.size)
        have HAB := Lib.hid hAB
        clear hAB hwA
        clear hHeld
        refine hK.out _ _ (by (try dsimp only); exact ⟨hAp, hAi, hAj⟩) (fun hHeld => ?_)
        clear hK K
        (try simp only [Act.put, List.setIfInBounds_toArray, List.set_cons_zero, List.set_cons_succ])
        refine' tk_call 16 ?hi2016 (by kernel_rfl) ?hr2016
        case hi2016 => (simp only [List.getElem?_toArray, List.getElem?_cons_succ, List.getElem?_cons_zero]; rfl)
        intro K hK
        refine step_append_lies _ (by rfl) _ _ _ (by rfl) w1.heap.size 76 i0 _ 2 16 Try.underlying34 hi hz0 hz1 hz2 rfl (by omega) (.slice ra i rc) i X (by rfl) HOA.out ⟨wr.heap.size, 0, none⟩ 1 1 [.int .i64 x, .int .i64 y] (by rfl) (by rfl) (World.news_of_block (cs := #[.int .i64 x, .int .i64 y]) (t := 76) (fr := (0, 0)) HNB.out) (by simp [Value.oneCell']) (by omega) (by unfold maxLen; omega) (by omega) HW1.out wA.heap.size rfl ?_
        intro gg cap' w9 hown9 hgrow9 hat9 hlt9
        have hb9 : But (w.heap.size + 1 + 1) w1 w9 := (HRL.out.then HAB.out).grown hgrow9 HOL.out
        have hbx9 := app_box HRB.out HAB.out hgrow9 HOL.out HRQ.out
        have hc9 : w9.cell? ⟨w.heap.size + 1 + 1, 1, none⟩ = some (.slice ra i rc) := hbx9.c1
        have hf9 : w9.frozen? ⟨w.heap.size + 1 + 1, 1, none⟩ = false := hbx9.fr 1
        have hp9 : w9.cell? ⟨w.heap.size, 1, none⟩ = some (.slice (some ⟨q, off, none⟩) n c) := (HX.out.but hb9 (by omega)).c1
        have hi9 : w9.cell? ⟨q, off + i * 2, none⟩ = some (.int .i64 x) := (hb9.cell (p := ⟨q, _, none⟩) hq3 hqr).trans HC1.out.1
        have hj9 : w9.cell? ⟨q, off + i * 2 + 1, none⟩ = some (.int .i64 y) := (hb9.cell (p := ⟨q, _, none⟩) hq3 hqr).trans HC1.out.2
        have hgr9 : gg ≠ w.heap.size + 1 + 1 := app_ne HAB.out hat9 HOL.out HRQ.out HWQ.out
        have HB9 := Lib.hid hb9
        have HBX9 := Lib.hid hbx9
        have HOWN9 := Lib.hid hown9
        have HGR9 := Lib.hid hgr9
        clear hb9 hbx9 hown9 hgrow9 hat9 hlt9 hgr9
        clear hHeld
        refine hK.out _ _ (by (try dsimp only); exact ⟨hp9, hi9, hj9⟩) (fun hHeld => ?_)
        clear hK K
        (try simp only [Act.put, List.setIfInBounds_toArray, List.set_cons_zero, List.set_cons_succ])
        refine' tk_any 17 32 (v := _) ?hi2017 ?hd2017 (by kernel_rfl) (by kernel_rfl) (by kernel_rfl) (fun _ _ _ h => h) ?hy2017 hHeld ?hr2017
        case hi2017 => (simp only [List.getElem?_toArray, List.getElem?_cons_succ, List.getElem?_cons_zero]; rfl)
        case hd2017 => rfl
        case hy2017 =>
          refine' Or.inl ⟨?hw2017, ?hx2017⟩
          case hw2017 => rfl
          case hx2017 => (intro w hSw; (try dsimp only at hSw); go_simp; (try with_reducible rfl))
        (try simp only [Act.put, List.setIfInBounds_toArray, List.set_cons_zero, List.set_cons_succ])
        refine' tk_call 18 ?hi2018 (by kernel_rfl) ?hr2018
        case hi2018 => (simp only [List.getElem?_toArray, List.getElem?_cons_succ, List.getElem?_cons_zero]; rfl)
        intro K hK
        go_simp
        clear hHeld
        refine hK.out _ _ (by (try dsimp only); exact ⟨set_blk (by omega) hp9, set_blk hqr hi9, set_blk hqr hj9⟩) (fun hHeld => ?_)
        clear hK K
        (try simp only [Act.put, List.setIfInBounds_toArray, List.set_cons_zero, List.set_cons_succ])
        refine wpAnyH_done (by kernel_rfl) ?_ _
        refine NoPanic.normal ?_
        go_wp2
        exact to_end hlt HN.out HXO.out HYO.out HB9.out HBX9.out (by have h := HOWN9.out; rw [HXC.out] at h; exact h) HGR9.out (by go_num)
      case hb2023 =>
        intro K hK
        go_simp
        obtain ⟨wA, hwA⟩ : ∃ wA : World, wA = (wr.alloc (.cells #[.int .i64 x, .int .i64 y] 76)).drew := ⟨_, rfl⟩
        rw [← hwA]
        have hAB : Below wr.heap.size wr wA := by rw [hwA]; exact ((Below.refl _ _).alloc (Nat.le_refl _) _).drew
        have hAp : wA.cell? ⟨w.heap.size, 1, none⟩ = some (.slice (some ⟨q, off, none⟩) n c) := (hAB.cell (p := ⟨_, 1, none⟩) HXR.out.lt).trans px1
        have hAi : wA.cell? ⟨q, off + i * 2, none⟩ = some (.int .i64 x) := (hAB.cell (p := ⟨q, _, none⟩) hqw).trans hci
        have hAj : wA.cell? ⟨q, off + i * 2 + 1, none⟩ = some (.int .i64 y) := (hAB.cell (p := ⟨q, _, none⟩) hqw).trans hcj
        have hAc : wA.cell? ⟨w.heap.size + 1 + 1, 1, none⟩ = some (.slice ra i rc) := (hAB.cell (p := ⟨_, 1, none⟩) HRB.out.lt).trans hcb
        have HNB := Lib.hid (show wA.heap[wr.heap.size]? = some (.cells #[.int .i64 x, .int .i64 y] 76 (0, 0)) by rw [hwA]; exact alloc_at (w := wr) rfl)
        have HOA := Lib.hid (own_block HOWQ.out (w' := wA) fun g' hg' => hAB.block g' (own_lt HOWQ.out hg'))
        have HW1 := Lib.hid (show w1.heap.size ≤ wA.heap.size from Nat.le_trans HWQ.out hAB.size)
        have HAB := Lib.hid hAB
        clear hAB hwA
        clear hHeld
        refine hK.out _ _ (by (try dsimp only); exact ⟨hAp, hAi, hAj⟩) (fun hHeld => ?_)
        clear hK K
        (try simp only [Act.put, List.setIfInBounds_toArray, List.set_cons_zero, List.set_cons_succ])
        refine' tk_call 1 ?hi2019 (by kernel_rfl) ?hr2019
        case hi2019 => (simp only [List.getElem?_toArray, List.getElem?_cons_succ, List.getElem?_cons_zero]; rfl)
        intro K hK
        go_simp
        clear hHeld
        refine hK.out _ _ (by (try dsimp only); exact ⟨hAp, hAi, hAj⟩) (fun hHeld => ?_)
        clear hK K
        (try simp only [Act.put, List.setIfInBounds_toArray, List.set_cons_zero, List.set_cons_succ])
        refine' tk_call 16 ?hi2020 (by kernel_rfl) ?hr2020
        case hi2020 => (simp only [List.getElem?_toArray, List.getElem?_cons_succ, List.getElem?_cons_zero]; rfl)
        intro K hK
        refine step_append_lies _ (by rfl) _ _ _ (by rfl) w1.heap.size 76 i0 _ 2 16 Try.underlying34 hi hz0 hz1 hz2 rfl (by omega) (.slice ra i rc) i X (by rfl) HOA.out ⟨wr.heap.size, 0, none⟩ 1 1 [.int .i64 x, .int .i64 y] (by rfl) (by rfl) (World.news_of_block (cs := #[.int .i64 x, .int .i64 y]) (t := 76) (fr := (0, 0)) HNB.out) (by simp [Value.oneCell']) (by omega) (by unfold maxLen; omega) (by omega) HW1.out wA.heap.size rfl ?_
        intro gg cap' w9 hown9 hgrow9 hat9 hlt9
        have hb9 : But (w.heap.size + 1 + 1) w1 w9 := (HRL.out.then HAB.out).grown hgrow9 HOL.out
        have hbx9 := app_box HRB.out HAB.out hgrow9 HOL.out HRQ.out
        have hc9 : w9.cell? ⟨w.heap.size + 1 + 1, 1, none⟩ = some (.slice ra i rc) := hbx9.c1
        have hf9 : w9.frozen? ⟨w.heap.size + 1 + 1, 1, none⟩ = false := hbx9.fr 1
        have hp9 : w9.cell? ⟨w.heap.size, 1, none⟩ = some (.slice (some ⟨q, off, none⟩) n c) := (HX.out.but hb9 (by omega)).c1
        have hi9 : w9.cell? ⟨q, off + i * 2, none⟩ = some (.int .i64 x) := (hb9.cell (p := ⟨q, _, none⟩) hq3 hqr).trans HC1.out.1
        have hj9 : w9.cell? ⟨q, off + i * 2 + 1, none⟩ = some (.int .i64 y) := (hb9.cell (p := ⟨q, _, none⟩) hq3 hqr).trans HC1.out.2
        have hgr9 : gg ≠ w.heap.size + 1 + 1 := app_ne HAB.out hat9 HOL.out HRQ.out HWQ.out
        have HB9 := Lib.hid hb9
        have HBX9 := Lib.hid hbx9
        have HOWN9 := Lib.hid hown9
        have HGR9 := Lib.hid hgr9
        clear hb9 hbx9 hown9 hgrow9 hat9 hlt9 hgr9
        clear hHeld
        refine hK.out _ _ (by (try dsimp only); exact ⟨hp9, hi9, hj9⟩) (fun hHeld => ?_)
        clear hK K
        (try simp only [Act.put, List.setIfInBounds_toArray, List.set_cons_zero, List.set_cons_succ])
        refine' tk_any 17 32 (v := _) ?hi2021 ?hd2021 (by kernel_rfl) (by kernel_rfl) (by kernel_rfl) (fun _ _ _ h => h) ?hy2021 hHeld ?hr2021
        case hi2021 => (simp only [List.getElem?_toArray, List.getElem?_cons_succ, List.getElem?_cons_zero]; rfl)
        case hd2021 => rfl
        case hy2021 =>
          refine' Or.inl ⟨?hw2021, ?hx2021⟩
          case hw2021 => rfl
          case hx2021 => (intro w hSw; (try dsimp only at hSw); go_simp; (try with_reducible rfl))
        (try simp only [Act.put, List.setIfInBounds_toArray, List.set_cons_zero, List.set_cons_succ])
        refine' tk_call 18 ?hi2022 (by kernel_rfl) ?hr2022
        case hi2022 => (simp only [List.getElem?_toArray, List.getElem?_cons_succ, List.getElem?_cons_zero]; rfl)
        intro K hK
        go_simp
        clear hHeld
        refine hK.out _ _ (by (try dsimp only); exact ⟨set_blk (by omega) hp9, set_blk hqr hi9, set_blk hqr hj9⟩) (fun hHeld => ?_)
        clear hK K
        (try simp only [Act.put, List.setIfInBounds_toArray, List.set_cons_zero, List.set_cons_succ])
        refine wpAnyH_done (by kernel_rfl) ?_ _
        refine NoPanic.normal ?_
        go_wp2
        exact to_end hlt HN.out HXO.out HYO.out HB9.out HBX9.out (by have h := HOWN9.out; rw [HXC.out] at h; exact h) HGR9.out (by go_num)
    · have hin : i = n := by omega
      have hout := HRB.out
      have hrr := HR.out.but HRL.out (by omega)
      have o0 := hout.c0
      have o1 := hout.c1
      have r0 := hrr.c0
      have r1 := hrr.c1
      have f0 := hrr.fr 0
      have f1 := hrr.fr 1
      have HRES := Lib.hid (show i = l.length ∧ wr.ownsRow w1.heap.size 76 2 (.slice ra i rc) l.length (fasCells l) by
        have h := HROW.out
        rw [hin, HN.out, List.take_length] at h
        exact ⟨by rw [hin, HN.out], by rw [hin, HN.out]; exact h⟩)
      have HBL := Lib.hid (HL.out.trans (HRL.out.below (B := w.heap.size) (by omega) (by omega)))
      have HML := Lib.hid (show l.length ≤ maxLen by rw [← HN.out]; unfold maxLen; omega)
      clear hin hout hrr
      go_wp2
      refine bodyPost_ret (v := .agg #[.bool nv, .slice ra i rc]) ?_ ?_ ?_
      · simp [results, Try.results14, go_sem, r0, r1]
      · rfl
      · exact fc_done HRES.out HBL.out (by omega) (by omega) HML.out

set_option maxRecDepth 100000 in
set_option maxHeartbeats 8000000 in
/-- two facts that are the same -/
theorem fsame_go (B B' : Nat) (a b : Option Addr) (c d n : Nat) (nv : Bool) (l : List (Int × Int)) (w : World) (hm : n ≤ 100000) (hn : n = l.length) (hr : FaB B w (.slice a n c) l) (hs : FaB B' w (.slice b n d) l) :
    Calls Try.prog 13 #[.agg #[.bool nv, .slice a n c], .agg #[.bool nv, .slice b n d]] w fun e w' => e = .returned (.bool true) ∧ Below w.heap.size w w' := by
  have HN := Lib.hid hn
  obtain ⟨W, hW⟩ : ∃ W, W = (w.alloc (.cells #[.bool nv, .slice a n c] 36)).alloc (.cells #[.bool nv, .slice b n d] 36) := ⟨_, rfl⟩
  have hbx : Bx W w.heap.size 36 #[.bool nv, .slice a n c] := by rw [hW]; exact alloc_past (alloc_at rfl) (by simp)
  have hby : Bx W (w.heap.size + 1) 36 #[.bool nv, .slice b n d] := by rw [hW]; exact alloc_at (by simp)
  have hbl : Below w.heap.size w W := by rw [hW]; exact ((Below.refl _ _).alloc (Nat.le_refl _) _).alloc (by simp) _
  have x1 := hbx.c1
  have y1 := hby.c1
  have HF := Lib.hid (hr.below hbl)
  have HG := Lib.hid (hs.below hbl)
  have HL := Lib.hid hbl
  have HW := Lib.hid hW
  have kn : (nv != nv) = false := by cases nv <;> rfl
  have kl : ((n : Int) != (n : Int)) = false := by simp
  clear hbx hby hbl hW hr hs hn
  go_enter Try.func13, Try.ntmps13
  go_wp2
  rw [← HW.out]
  go_loopw [5] (fun iv wr => ∃ k : Nat, k ≤ n ∧ iv = .int .i64 k ∧ ∃ d, wr = W.drewN d) (fun iv _ => n - (intOf iv).toNat)
  case atStart => exact ⟨0, Nat.zero_le _, rfl, 0, rfl⟩
  case round =>
    obtain ⟨k, hk, rfl, dd, rfl⟩ := hrel
    by_cases hlt : k < n
    · have hkl : k < l.length := by rw [← HN.out]; exact hlt
      obtain ⟨q, off, rfl, _, hq, c0, c1⟩ := HF.out.get hkl
      obtain ⟨q', off', rfl, _, hq', d0, d1⟩ := HG.out.get hkl
      obtain ⟨x, hx⟩ : ∃ x, x = (l.getD k fa0).1 := ⟨_, rfl⟩
      obtain ⟨y, hy⟩ : ∃ y, y = (l.getD k fa0).2 := ⟨_, rfl⟩
      rw [← hx] at c0 d0
      rw [← hy] at c1 d1
      have h0 : (0 : Int) ≤ (k : Int) := Int.natCast_nonneg _
      have h1 : (k : Int) < (n : Int) := by omega
      clear hx hy hkl
      go_wp2
      go_quiet (fail)
      go_wp2
      go_roundw
      case rel => exact ⟨k + 1, by omega, by go_num, _, rfl⟩
      case measure => simp [intOf]; omega
    · go_wp2
      go_ret
      exact ⟨rfl, below_dr HL.out _⟩
end Go.Proofs.Ytgjkobkcmgliaaa

import Derived.Test.YtlalnkabfigodaaDoorCoL
namespace Go.Proofs.YtlalnkabfigodaaDoor
open Go.Lib (hid)
open Go.RowKit

theorem Tryd.infoCR : (Tryd.prog.info? 30).map (fun i => (i.zero, i.size, i.bytes)) = some (some (.agg #[.int .i64 0, .int .i64 0, .int .i64 0, .int .i64 0, .int .i64 0, .int .i64 0, .int .i64 0, .int .i64 0, .slice none 0 0, .int .i64 0, .int .i64 0, .slice none 0 0]), 12, 128) := by kernel_rfl
def ToR (N : Nat → Prop) (m go : Nat) (T : TypeId) (raw : Option Addr → Nat → Nat → RawC) (W : World) (l : List Co) (iv : Value) (wr : World) : Prop :=
 ∃ (i : Nat) (a : Option Addr) (cp : Nat), i ≤ m ∧ iv = .int .i64 i ∧ Hid (CBox wr go T (raw a i cp)) ∧ Hid (RowC T N W.heap.size wr (.slice a i cp) (l.take i)) ∧ Hid (But go W wr)

set_option maxRecDepth 100000 in
set_option maxHeartbeats 32000000 in
theorem to7_go (n : Nat) : ∀ (c : Co) (v : Value) (w : World) (N : Nat → Prop), szC c ≤ n → Thin c → (∀ b, N b → b < w.heap.size) → CoV w v c → Calls Tryd.prog 9 #[v] w (CoPost N c w) := by
 induction n with
 | zero => intro c v w N h; have := szC_pos c; omega
 | succ n ih =>
  intro c v w N hn hth hN hv
  obtain ⟨i0, hi, hz0, hz1, hz2⟩ := info_parts Tryd.infoCR
  have IH := hid ih
  have HN0 := hid hn
  have HT := hid hth.len
  have HTH := hid hth
  clear ih hn hth
  obtain ⟨pa, pc, fa, fc, rfl, hp, hf⟩ := hv.form
  obtain ⟨np, hnp⟩ : ∃ n, n = c.pairs.length := ⟨_, rfl⟩
  obtain ⟨nf, hnf⟩ : ∃ n, n = c.funs.length := ⟨_, rfl⟩
  rw [← hnp] at hp ⊢
  rw [← hnf] at hf ⊢
  have bp : (np : Int) ≤ 12 := by have := HT.out.1; omega
  have bf : (nf : Int) ≤ 12 := by have := HT.out.2; omega
  obtain ⟨W, hW⟩ : ∃ W, W = ((w.alloc (.cells #[.int .i64 c.h.f0, .int .i64 c.h.f1, .int .i64 c.h.f2, .int .i64 c.h.f3, .int .i64 c.h.f4, .int .i64 c.h.f5, .int .i64 c.h.pair, .int .i64 c.h.pl, .slice pa np pc, .int .i64 c.h.fn, .int .i64 c.h.fl, .slice fa nf fc] 25)).alloc (.cells #[.int .i64 0, .int .i64 0, .int .i64 0, .int .i64 0, .int .i64 0, .int .i64 0, .int .i64 0, .int .i64 0, .slice none 0 0, .int .i64 0, .int .i64 0, .slice none 0 0] 30)).alloc (.cells #[.int .i64 c.h.f0, .int .i64 c.h.f1, .int .i64 c.h.f2, .int .i64 c.h.f3, .int .i64 c.h.f4, .int .i64 c.h.f5, .int .i64 c.h.pair, .int .i64 c.h.pl, .slice none 0 0, .int .i64 c.h.fn, .int .i64 c.h.fl, .slice none 0 0] 30) := ⟨_, rfl⟩
  have hb1 : Below w.heap.size w (w.alloc (.cells #[.int .i64 c.h.f0, .int .i64 c.h.f1, .int .i64 c.h.f2, .int .i64 c.h.f3, .int .i64 c.h.f4, .int .i64 c.h.f5, .int .i64 c.h.pair, .int .i64 c.h.pl, .slice pa np pc, .int .i64 c.h.fn, .int .i64 c.h.fl, .slice fa nf fc] 25)) := bAl _ _
  have HX := hid (show CBox W w.heap.size 25 ⟨c.h, .slice pa np pc, .slice fa nf fc⟩ by rw [hW]; exact ((CBox.made w 25 ⟨c.h, .slice pa np pc, .slice fa nf fc⟩).keep (bAl _ _)).keep (bAl _ _))
  have HR := hid (show CBox W (w.heap.size + 1) 30 ⟨⟨0, 0, 0, 0, 0, 0, 0, 0, 0, 0⟩, .slice none 0 0, .slice none 0 0⟩ by rw [hW]; have h := (CBox.made (w.alloc (.cells #[.int .i64 c.h.f0, .int .i64 c.h.f1, .int .i64 c.h.f2, .int .i64 c.h.f3, .int .i64 c.h.f4, .int .i64 c.h.f5, .int .i64 c.h.pair, .int .i64 c.h.pl, .slice pa np pc, .int .i64 c.h.fn, .int .i64 c.h.fl, .slice fa nf fc] 25)) 30 ⟨⟨0, 0, 0, 0, 0, 0, 0, 0, 0, 0⟩, .slice none 0 0, .slice none 0 0⟩).keep ((Below.refl _ _).alloc (Nat.le_refl _) (.cells #[.int .i64 c.h.f0, .int .i64 c.h.f1, .int .i64 c.h.f2, .int .i64 c.h.f3, .int .i64 c.h.f4, .int .i64 c.h.f5, .int .i64 c.h.pair, .int .i64 c.h.pl, .slice none 0 0, .int .i64 c.h.fn, .int .i64 c.h.fl, .slice none 0 0] 30)); simpa using h)
  have HO := hid (show CBox W (w.heap.size + 1 + 1) 30 ⟨c.h, .slice none 0 0, .slice none 0 0⟩ by rw [hW]; have h := CBox.made ((w.alloc (.cells #[.int .i64 c.h.f0, .int .i64 c.h.f1, .int .i64 c.h.f2, .int .i64 c.h.f3, .int .i64 c.h.f4, .int .i64 c.h.f5, .int .i64 c.h.pair, .int .i64 c.h.pl, .slice pa np pc, .int .i64 c.h.fn, .int .i64 c.h.fl, .slice fa nf fc] 25)).alloc (.cells #[.int .i64 0, .int .i64 0, .int .i64 0, .int .i64 0, .int .i64 0, .int .i64 0, .int .i64 0, .int .i64 0, .slice none 0 0, .int .i64 0, .int .i64 0, .slice none 0 0] 30)) 30 ⟨c.h, .slice none 0 0, .slice none 0 0⟩; simpa using h)
  have HL := hid (show Below w.heap.size w W by rw [hW]; exact ((bAl _ _).alloc (by simp) _).alloc (by simp <;> omega) _)
  have hsz : W.heap.size = w.heap.size + 1 + 1 + 1 := by rw [hW]; simp
  have HLT := hid (show w.heap.size < W.heap.size ∧ w.heap.size ≠ (w.heap.size + 1 + 1) ∧ (w.heap.size + 1 + 1) < W.heap.size by rw [hsz]; exact ⟨by omega, by omega, by omega⟩)
  have HP := hid (CoSN.later (M := fun x => x = (w.heap.size + 1 + 1)) hp HL.out (fun x h => .inr (by omega)))
  have HF := hid (CoSN.later (M := fun x => x = (w.heap.size + 1 + 1)) hf HL.out (fun x h => .inr (by omega)))
  have HNB1 := hid (show ∀ b, (fun x => (N x ∨ x = w.heap.size + 1) ∨ x = w.heap.size + 1 + 1) b → b < W.heap.size from fun b h => by
   rcases h with (h | h) | h
   ·
    have := hN b h; omega
   ·
    omega
   ·
    omega)
  have HPN := hid hnp
  have HFN := hid hnf
  have HW := hid hW
  clear hp hf hnp hnf hW hb1 hsz hN hv
  have X8 := HX.out.c8
  have X11 := HX.out.c11
  go_enter Tryd.func9, Tryd.ntmps9
  go_wp2
  rw [← HW.out]
  clear HW
  go_loopw [4] (fun iv wr => ToR (fun x => (N x ∨ x = w.heap.size + 1) ∨ x = w.heap.size + 1 + 1) np (w.heap.size + 1 + 1) 30 (fun a i cp => ⟨c.h, (.slice a i cp), .slice none 0 0⟩) W c.pairs iv wr) (fun iv _ => np - (intOf iv).toNat)
  case atStart => exact ⟨0, none, 0, Nat.zero_le _, rfl, HO, hid RowC.nil, hid (But.refl _ _)⟩
  case round =>
   clear X8 X11
   obtain ⟨i, ra, rc, hi1, rfl, HB, HROW, HRL⟩ := hrel
   have hX8 := (HX.out.but HRL.out (by omega)).c8
   have px : wr.cell? ⟨w.heap.size, 8, none⟩ = some (.slice pa np pc) := hX8
   clear hX8
   by_cases hlt : i < np
   ·
    have hi0 : (0 : Int) ≤ (i : Int) := Int.natCast_nonneg _
    have hi2 : (i : Int) < (np : Int) := by omega
    have hil : i < c.pairs.length := by rw [← HPN.out]; exact hlt
    have hi12 : i ≤ 12 := by have := HT.out.1; rw [← HPN.out] at this; omega
    obtain ⟨d, hd⟩ : ∃ d, c.pairs.getD i co0 = d := ⟨_, rfl⟩
    obtain ⟨b, off, p1, c1, p2, c2, rfl, hb, ⟨e0, e1, e2, e3, e4, e5, e6, e7, e8, e9, e10, e11⟩, hv⟩ := CoSN.elem2 HP.out hil hd
    have X8 : W.cell? ⟨w.heap.size, 8, none⟩ = some (.slice (some ⟨b, off, none⟩) np pc) := HX.out.c8
    have hb2 : b ≠ (w.heap.size + 1 + 1) := fun e => hb.2 e
    have HBL := hid (show b < W.heap.size ∧ b ≠ (w.heap.size + 1 + 1) from ⟨hb.1, hb2⟩)
    have HV := hid (hv.but HRL.out rfl)
    have HSD := hid (show szC d ≤ n ∧ Thin d from ⟨by have h := szC_pair c i hil; rw [hd] at h; have := HN0.out; omega, by rw [← hd]; exact HTH.out.pair (getC_mem hil)⟩)
    have htk : c.pairs.take (i + 1) = c.pairs.take i ++ [d] := by
     rw [List.take_succ_eq_append_getElem hil, ← hd]; simp [List.getD_eq_getElem?_getD, hil]
    have HTK := hid htk
    have HLE := hid (show (c.pairs.take i).length = i by rw [List.length_take]; omega)
    have HLT2 := hid hlt
    have oc : wr.cell? ⟨(w.heap.size + 1 + 1), 8, none⟩ = some (.slice ra i rc) := HB.out.c8
    have HOW := hid HROW.out.lt
    clear hd hv hb hb2 htk hil hlt
    go_upto_region 5 with fail
    (try dsimp only [List.append])
    refine wp_region_noPanic ?_
    refine wp_region_held_drew (S := (fun w' => But (w.heap.size + 1 + 1) W w')) (by kernel_rfl) (by (try dsimp only); exact HRL.out.then ((Below.refl _ _).drew)) (fun hHeld => ?_)
    have HWD := hid (show Below wr.heap.size wr wr.drew from (Below.refl _ _).drew)
    have ocd : wr.drew.cell? ⟨(w.heap.size + 1 + 1), 8, none⟩ = some (.slice ra i rc) := oc
    replace HV := hid (HV.out.below HWD.out)
    generalize wr.drew = wd at hHeld HWD HV ocd ⊢
    refine' tk_q 0 24 hHeld ?hi0 ?hr0
    case hi0 => (refine ⟨_, rfl, rfl, rfl, fun wz hSw => ?_⟩; (try dsimp only at hSw); go_simp; (try with_reducible rfl))
    (try simp only [pq1, ls0, ls1])
    refine' tk_q 2 26 hHeld ?hi1 ?hr1
    case hi1 => (refine ⟨_, rfl, rfl, rfl, fun wz hSw => ?_⟩; (try dsimp only at hSw); go_simp; (try with_reducible rfl))
    (try simp only [pq1, ls0, ls1])
    refine' tk_q 3 27 hHeld ?hi2 ?hr2
    case hi2 => (refine ⟨_, rfl, rfl, rfl, fun wz hSw => ?_⟩; (try dsimp only at hSw); have y8 := (hSw.cell (p := ⟨w.heap.size, 8, none⟩) HLT.out.1 HLT.out.2.1).trans X8; go_simp; (try with_reducible rfl))
    (try simp only [pq1, ls0, ls1])
    refine' tk_q 4 28 hHeld ?hi3 ?hr3
    case hi3 => (refine ⟨_, rfl, rfl, rfl, fun wz hSw => ?_⟩; (try dsimp only at hSw); go_simp; (try with_reducible rfl))
    (try simp only [pq1, ls0, ls1])
    refine' tk_q 5 29 hHeld ?hi4 ?hr4
    case hi4 => (refine ⟨_, rfl, rfl, rfl, fun wz hSw => ?_⟩; (try dsimp only at hSw); go_simp; (try with_reducible rfl))
    (try simp only [pq1, ls0, ls1])
    refine' tk_q 6 30 hHeld ?hi5 ?hr5
    case hi5 => (refine ⟨_, rfl, rfl, rfl, fun wz hSw => ?_⟩; (try dsimp only at hSw); have y100 := (hSw.cell (p := ⟨b, _, none⟩) HBL.out.1 HBL.out.2).trans e0; have y101 := (hSw.cell (p := ⟨b, _, none⟩) HBL.out.1 HBL.out.2).trans e1; have y102 := (hSw.cell (p := ⟨b, _, none⟩) HBL.out.1 HBL.out.2).trans e2; have y103 := (hSw.cell (p := ⟨b, _, none⟩) HBL.out.1 HBL.out.2).trans e3; have y104 := (hSw.cell (p := ⟨b, _, none⟩) HBL.out.1 HBL.out.2).trans e4; have y105 := (hSw.cell (p := ⟨b, _, none⟩) HBL.out.1 HBL.out.2).trans e5; have y106 := (hSw.cell (p := ⟨b, _, none⟩) HBL.out.1 HBL.out.2).trans e6; have y107 := (hSw.cell (p := ⟨b, _, none⟩) HBL.out.1 HBL.out.2).trans e7; have y108 := (hSw.cell (p := ⟨b, _, none⟩) HBL.out.1 HBL.out.2).trans e8; have y109 := (hSw.cell (p := ⟨b, _, none⟩) HBL.out.1 HBL.out.2).trans e9; have y110 := (hSw.cell (p := ⟨b, _, none⟩) HBL.out.1 HBL.out.2).trans e10; have y111 := (hSw.cell (p := ⟨b, _, none⟩) HBL.out.1 HBL.out.2).trans e11; go_simp; (try with_reducible rfl))
    (try simp only [pq1, ls0, ls1])
    refine' tk_two 1 7 ?hi6 ?hj6 (by kernel_rfl) ?ha6 ?hb6
    case hi6 => rfl
    case hj6 => rfl
    case ha6 =>
     intro K hK
     go_simp
     clear hHeld
     refine hK.out _ _ (by (try dsimp only); exact HRL.out.then HWD.out) (fun hHeld => ?_)
     clear hK K
     (try simp only [pq1, ls0, ls1])
     refine' tk_call 7 ?hi7 (by kernel_rfl) ?hr7
     case hi7 => rfl
     intro K hK
     go_simp
     go_at_call 9
     refine (IH.out d _ wd (fun x => (fun x => (N x ∨ x = w.heap.size + 1) ∨ x = w.heap.size + 1 + 1) x ∨ (Value.slice ra i rc).ownBlock = some x) HSD.out.1 HSD.out.2 (fun x hx => hx.elim (fun h => Nat.lt_of_lt_of_le (HNB1.out x h) (by have h1 := HRL.out.size; have h2 := HWD.out.size; omega)) fun h => Nat.lt_of_lt_of_le (HOW.out x h).2 HWD.out.size) HV.out.cv).mono ?_
     rintro e w2 ⟨⟨u, rfl, hu⟩, hb⟩
     obtain ⟨q1, k1, q2, k2, rfl, _, _⟩ := hu.form
     have HU := hid hu
     have HB2 := hid hb
     have hbt : But (w.heap.size + 1 + 1) W w2 := (HRL.out.then HWD.out).then hb
     have HBT := hid hbt
     have oc2 : w2.cell? ⟨(w.heap.size + 1 + 1), 8, none⟩ = some (.slice ra i rc) := (hb.cell (p := ⟨_, 8, none⟩) (Nat.lt_of_lt_of_le HB.out.lt HWD.out.size)).trans ocd
     clear hu hb hbt
     go_wp2_with fail
     clear hHeld
     refine hK.out _ _ (by (try dsimp only); exact HBT.out) (fun hHeld => ?_)
     clear hK K
     (try simp only [pq1, ls0, ls1])
     refine' tk_call 8 ?hi8 (by kernel_rfl) ?hr8
     case hi8 => rfl
     intro K hK
     go_simp
     obtain ⟨wA, hwA⟩ : ∃ wA : World, wA = w2.alloc (.cells #[.int .i64 d.h.f0, .int .i64 d.h.f1, .int .i64 d.h.f2, .int .i64 d.h.f3, .int .i64 d.h.f4, .int .i64 d.h.f5, .int .i64 d.h.pair, .int .i64 d.h.pl, .slice q1 d.pairs.length k1, .int .i64 d.h.fn, .int .i64 d.h.fl, .slice q2 d.funs.length k2] 30) := ⟨_, rfl⟩
     rw [← hwA]
     have hAB : Below w2.heap.size w2 wA := by rw [hwA]; exact bAl _ _
     have HNB := hid (show wA.heap[w2.heap.size]? = some (.cells #[.int .i64 d.h.f0, .int .i64 d.h.f1, .int .i64 d.h.f2, .int .i64 d.h.f3, .int .i64 d.h.f4, .int .i64 d.h.f5, .int .i64 d.h.pair, .int .i64 d.h.pl, .slice q1 d.pairs.length k1, .int .i64 d.h.fn, .int .i64 d.h.fl, .slice q2 d.funs.length k2] 30 (0, 0)) by rw [hwA]; exact heap_alloc_new _ _)
     have ocA : wA.cell? ⟨(w.heap.size + 1 + 1), 8, none⟩ = some (.slice ra i rc) := (hAB.cell (p := ⟨_, 8, none⟩) (Nat.lt_of_lt_of_le HB.out.lt (Nat.le_trans HWD.out.size HB2.out.size))).trans oc2
     have hrow2 := (HROW.out.below HWD.out).below HB2.out
     obtain ⟨rs, hown, hraw⟩ := hrow2
     rw [HLE.out] at hown
     have HOA := hid (show wA.ownsRow W.heap.size 30 12 (.slice ra i rc) i (cosCells rs) by rw [hwA]; exact hown.alloc _)
     have HRAW := hid hraw
     have HWA := hid hwA
     have HW1 := hid (show W.heap.size ≤ wA.heap.size from Nat.le_trans HBT.out.size hAB.size)
     have HAB := hid hAB
     clear hAB hwA hown hraw
     clear hHeld
     refine hK.out _ _ (by (try dsimp only); exact HBT.out.then HAB.out) (fun hHeld => ?_)
     clear hK K
     (try simp only [pq1, ls0, ls1])
     refine' tk_call 9 ?hi9 (by kernel_rfl) ?hr9
     case hi9 => rfl
     intro K hK
     refine step_append_lies _ (by rfl) _ _ _ (by rfl) W.heap.size 30 i0 _ 12 128 Tryd.underlying28 hi hz0 hz1 hz2 rfl (by omega) (.slice ra i rc) i (cosCells rs) (by rfl) HOA.out ⟨w2.heap.size, 0, none⟩ 1 1 [.int .i64 d.h.f0, .int .i64 d.h.f1, .int .i64 d.h.f2, .int .i64 d.h.f3, .int .i64 d.h.f4, .int .i64 d.h.f5, .int .i64 d.h.pair, .int .i64 d.h.pl, .slice q1 d.pairs.length k1, .int .i64 d.h.fn, .int .i64 d.h.fl, .slice q2 d.funs.length k2] (by rfl) (by rfl) (World.news_of_block (cs := #[.int .i64 d.h.f0, .int .i64 d.h.f1, .int .i64 d.h.f2, .int .i64 d.h.f3, .int .i64 d.h.f4, .int .i64 d.h.f5, .int .i64 d.h.pair, .int .i64 d.h.pl, .slice q1 d.pairs.length k1, .int .i64 d.h.fn, .int .i64 d.h.fl, .slice q2 d.funs.length k2]) (t := 30) (fr := (0, 0)) HNB.out) (by simp [Value.oneCell']) (by omega) (by unfold maxLen; omega) (by omega) HW1.out wA.heap.size rfl ?_
     intro gg cap w9 hown9 hgrow9 hat9 hlt9
     have hb9 : But (w.heap.size + 1 + 1) W w9 := (HBT.out.then HAB.out).grown hgrow9 (fun x hx => (HOW.out x hx).1)
     have hbx9 : CBox w9 (w.heap.size + 1 + 1) 30 ⟨c.h, (.slice ra i rc), .slice none 0 0⟩ := (hgrow9.block _ (Nat.lt_of_lt_of_le HB.out.lt (Nat.le_trans HWD.out.size (Nat.le_trans HB2.out.size HAB.out.size))) (fun e => by have h1 := (HOW.out _ e.symm).1; have h2 := HLT.out.2.2; omega)).trans (((HB.out.keep HWD.out).keep HB2.out).keep HAB.out)
     have hrow9 : RowC 30 (fun x => (N x ∨ x = w.heap.size + 1) ∨ x = w.heap.size + 1 + 1) W.heap.size w9 (.slice (some ⟨gg, 0, none⟩) (i + 1) cap) (c.pairs.take (i + 1)) := by
      have h2 : RawCo w2 (fun b => Lc (fun x => (N x ∨ x = w.heap.size + 1) ∨ x = w.heap.size + 1 + 1) w2 b ∧ (Value.slice ra i rc).ownBlock ≠ some b) ⟨d.h, .slice q1 d.pairs.length k1, .slice q2 d.funs.length k2⟩ d := HU.out.raw.mono (fun b h => ⟨⟨h.1, fun e => h.2 (.inl e)⟩, fun e => h.2 (.inr e)⟩) fun _ _ _ => rfl
      have h1 := HRAW.out
      have hg9 := hgrow9
      rw [HWA.out] at hg9
      have hl9 : (Value.slice ra i rc).ownBlock = some gg ∨ gg = w2.heap.size + 1 := hat9.imp id fun h => by rw [h, HWA.out]; simp
      have hlen := HLE.out
      have h3 := rowc_push (l := c.pairs.take i) (cap := cap) h1 h2 hg9 hl9 (by rw [hlen]; exact hown9)
      rw [hlen] at h3
      rw [HTK.out]; exact h3
     have hc9 : w9.cell? ⟨(w.heap.size + 1 + 1), 8, none⟩ = some (.slice ra i rc) := hbx9.c8
     have hf9 : w9.frozen? ⟨(w.heap.size + 1 + 1), 8, none⟩ = false := hbx9.fr 8
     have HB9 := hid hb9
     have HBX9 := hid hbx9
     have HROW9 := hid hrow9
     clear hb9 hbx9 hrow9 hown9 hgrow9 hat9 hlt9
     clear hHeld
     refine hK.out _ _ (by (try dsimp only); exact HB9.out) (fun hHeld => ?_)
     clear hK K
     (try simp only [pq1, ls0, ls1])
     refine' tk_q 10 34 hHeld ?hia ?hra
     case hia => (refine ⟨_, rfl, rfl, rfl, fun w hSw => ?_⟩; (try dsimp only at hSw); go_simp; (try with_reducible rfl))
     (try simp only [pq1, ls0, ls1])
     refine' tk_call 11 ?hib (by kernel_rfl) ?hrb
     case hib => rfl
     intro K hK
     go_simp
     clear hHeld
     refine hK.out _ _ (by (try dsimp only); exact HB9.out.set _ _) (fun hHeld => ?_)
     clear hK K
     (try simp only [pq1, ls0, ls1])
     refine wpAnyH_done (by kernel_rfl) ?_ _
     refine NoPanic.normal ?_
     go_wp2
     refine ⟨⟨i + 1, some ⟨gg, 0, none⟩, cap, HLT2.out, by go_num, hid HBX9.out.s8, hid (HROW9.out.store (.inr rfl) HLT.out.2.2), hid (HB9.out.set _ _)⟩, by have := HLT2.out; simp [intOf]; omega⟩
    case hb6 =>
     intro K hK
     go_simp
     go_at_call 9
     refine (IH.out d _ wd (fun x => (fun x => (N x ∨ x = w.heap.size + 1) ∨ x = w.heap.size + 1 + 1) x ∨ (Value.slice ra i rc).ownBlock = some x) HSD.out.1 HSD.out.2 (fun x hx => hx.elim (fun h => Nat.lt_of_lt_of_le (HNB1.out x h) (by have h1 := HRL.out.size; have h2 := HWD.out.size; omega)) fun h => Nat.lt_of_lt_of_le (HOW.out x h).2 HWD.out.size) HV.out.cv).mono ?_
     rintro e w2 ⟨⟨u, rfl, hu⟩, hb⟩
     obtain ⟨q1, k1, q2, k2, rfl, _, _⟩ := hu.form
     have HU := hid hu
     have HB2 := hid hb
     have hbt : But (w.heap.size + 1 + 1) W w2 := (HRL.out.then HWD.out).then hb
     have HBT := hid hbt
     have oc2 : w2.cell? ⟨(w.heap.size + 1 + 1), 8, none⟩ = some (.slice ra i rc) := (hb.cell (p := ⟨_, 8, none⟩) (Nat.lt_of_lt_of_le HB.out.lt HWD.out.size)).trans ocd
     clear hu hb hbt
     go_wp2_with fail
     clear hHeld
     refine hK.out _ _ (by (try dsimp only); exact HBT.out) (fun hHeld => ?_)
     clear hK K
     (try simp only [pq1, ls0, ls1])
     refine' tk_two 1 8 ?hic ?hjc (by kernel_rfl) ?hac ?hbc
     case hic => rfl
     case hjc => rfl
     case hac =>
      intro K hK
      go_simp
      clear hHeld
      refine hK.out _ _ (by (try dsimp only); exact HBT.out) (fun hHeld => ?_)
      clear hK K
      (try simp only [pq1, ls0, ls1])
      refine' tk_call 8 ?hid (by kernel_rfl) ?hrd
      case hid => rfl
      intro K hK
      go_simp
      obtain ⟨wA, hwA⟩ : ∃ wA : World, wA = w2.alloc (.cells #[.int .i64 d.h.f0, .int .i64 d.h.f1, .int .i64 d.h.f2, .int .i64 d.h.f3, .int .i64 d.h.f4, .int .i64 d.h.f5, .int .i64 d.h.pair, .int .i64 d.h.pl, .slice q1 d.pairs.length k1, .int .i64 d.h.fn, .int .i64 d.h.fl, .slice q2 d.funs.length k2] 30) := ⟨_, rfl⟩
      rw [← hwA]
      have hAB : Below w2.heap.size w2 wA := by rw [hwA]; exact bAl _ _
      have HNB := hid (show wA.heap[w2.heap.size]? = some (.cells #[.int .i64 d.h.f0, .int .i64 d.h.f1, .int .i64 d.h.f2, .int .i64 d.h.f3, .int .i64 d.h.f4, .int .i64 d.h.f5, .int .i64 d.h.pair, .int .i64 d.h.pl, .slice q1 d.pairs.length k1, .int .i64 d.h.fn, .int .i64 d.h.fl, .slice q2 d.funs.length k2] 30 (0, 0)) by rw [hwA]; exact heap_alloc_new _ _)
      have ocA : wA.cell? ⟨(w.heap.size + 1 + 1), 8, none⟩ = some (.slice ra i rc) := (hAB.cell (p := ⟨_, 8, none⟩) (Nat.lt_of_lt_of_le HB.out.lt (Nat.le_trans HWD.out.size HB2.out.size))).trans oc2
      have hrow2 := (HROW.out.below HWD.out).below HB2.out
      obtain ⟨rs, hown, hraw⟩ := hrow2
      rw [HLE.out] at hown
      have HOA := hid (show wA.ownsRow W.heap.size 30 12 (.slice ra i rc) i (cosCells rs) by rw [hwA]; exact hown.alloc _)
      have HRAW := hid hraw
      have HWA := hid hwA
      have HW1 := hid (show W.heap.size ≤ wA.heap.size from Nat.le_trans HBT.out.size hAB.size)
      have HAB := hid hAB
      clear hAB hwA hown hraw
      clear hHeld
      refine hK.out _ _ (by (try dsimp only); exact HBT.out.then HAB.out) (fun hHeld => ?_)
      clear hK K
      (try simp only [pq1, ls0, ls1])
      refine' tk_call 9 ?hie (by kernel_rfl) ?hre
      case hie => rfl
      intro K hK
      refine step_append_lies _ (by rfl) _ _ _ (by rfl) W.heap.size 30 i0 _ 12 128 Tryd.underlying28 hi hz0 hz1 hz2 rfl (by omega) (.slice ra i rc) i (cosCells rs) (by rfl) HOA.out ⟨w2.heap.size, 0, none⟩ 1 1 [.int .i64 d.h.f0, .int .i64 d.h.f1, .int .i64 d.h.f2, .int .i64 d.h.f3, .int .i64 d.h.f4, .int .i64 d.h.f5, .int .i64 d.h.pair, .int .i64 d.h.pl, .slice q1 d.pairs.length k1, .int .i64 d.h.fn, .int .i64 d.h.fl, .slice q2 d.funs.length k2] (by rfl) (by rfl) (World.news_of_block (cs := #[.int .i64 d.h.f0, .int .i64 d.h.f1, .int .i64 d.h.f2, .int .i64 d.h.f3, .int .i64 d.h.f4, .int .i64 d.h.f5, .int .i64 d.h.pair, .int .i64 d.h.pl, .slice q1 d.pairs.length k1, .int .i64 d.h.fn, .int .i64 d.h.fl, .slice q2 d.funs.length k2]) (t := 30) (fr := (0, 0)) HNB.out) (by simp [Value.oneCell']) (by omega) (by unfold maxLen; omega) (by omega) HW1.out wA.heap.size rfl ?_
      intro gg cap w9 hown9 hgrow9 hat9 hlt9
      have hb9 : But (w.heap.size + 1 + 1) W w9 := (HBT.out.then HAB.out).grown hgrow9 (fun x hx => (HOW.out x hx).1)
      have hbx9 : CBox w9 (w.heap.size + 1 + 1) 30 ⟨c.h, (.slice ra i rc), .slice none 0 0⟩ := (hgrow9.block _ (Nat.lt_of_lt_of_le HB.out.lt (Nat.le_trans HWD.out.size (Nat.le_trans HB2.out.size HAB.out.size))) (fun e => by have h1 := (HOW.out _ e.symm).1; have h2 := HLT.out.2.2; omega)).trans (((HB.out.keep HWD.out).keep HB2.out).keep HAB.out)
      have hrow9 : RowC 30 (fun x => (N x ∨ x = w.heap.size + 1) ∨ x = w.heap.size + 1 + 1) W.heap.size w9 (.slice (some ⟨gg, 0, none⟩) (i + 1) cap) (c.pairs.take (i + 1)) := by
       have h2 : RawCo w2 (fun b => Lc (fun x => (N x ∨ x = w.heap.size + 1) ∨ x = w.heap.size + 1 + 1) w2 b ∧ (Value.slice ra i rc).ownBlock ≠ some b) ⟨d.h, .slice q1 d.pairs.length k1, .slice q2 d.funs.length k2⟩ d := HU.out.raw.mono (fun b h => ⟨⟨h.1, fun e => h.2 (.inl e)⟩, fun e => h.2 (.inr e)⟩) fun _ _ _ => rfl
       have h1 := HRAW.out
       have hg9 := hgrow9
       rw [HWA.out] at hg9
       have hl9 : (Value.slice ra i rc).ownBlock = some gg ∨ gg = w2.heap.size + 1 := hat9.imp id fun h => by rw [h, HWA.out]; simp
       have hlen := HLE.out
       have h3 := rowc_push (l := c.pairs.take i) (cap := cap) h1 h2 hg9 hl9 (by rw [hlen]; exact hown9)
       rw [hlen] at h3
       rw [HTK.out]; exact h3
      have hc9 : w9.cell? ⟨(w.heap.size + 1 + 1), 8, none⟩ = some (.slice ra i rc) := hbx9.c8
      have hf9 : w9.frozen? ⟨(w.heap.size + 1 + 1), 8, none⟩ = false := hbx9.fr 8
      have HB9 := hid hb9
      have HBX9 := hid hbx9
      have HROW9 := hid hrow9
      clear hb9 hbx9 hrow9 hown9 hgrow9 hat9 hlt9
      clear hHeld
      refine hK.out _ _ (by (try dsimp only); exact HB9.out) (fun hHeld => ?_)
      clear hK K
      (try simp only [pq1, ls0, ls1])
      refine' tk_q 10 34 hHeld ?hif ?hrf
      case hif => (refine ⟨_, rfl, rfl, rfl, fun w hSw => ?_⟩; (try dsimp only at hSw); go_simp; (try with_reducible rfl))
      (try simp only [pq1, ls0, ls1])
      refine' tk_call 11 ?hig (by kernel_rfl) ?hrg
      case hig => rfl
      intro K hK
      go_simp
      clear hHeld
      refine hK.out _ _ (by (try dsimp only); exact HB9.out.set _ _) (fun hHeld => ?_)
      clear hK K
      (try simp only [pq1, ls0, ls1])
      refine wpAnyH_done (by kernel_rfl) ?_ _
      refine NoPanic.normal ?_
      go_wp2
      refine ⟨⟨i + 1, some ⟨gg, 0, none⟩, cap, HLT2.out, by go_num, hid HBX9.out.s8, hid (HROW9.out.store (.inr rfl) HLT.out.2.2), hid (HB9.out.set _ _)⟩, by have := HLT2.out; simp [intOf]; omega⟩
     case hbc =>
      intro K hK
      go_simp
      obtain ⟨wA, hwA⟩ : ∃ wA : World, wA = w2.alloc (.cells #[.int .i64 d.h.f0, .int .i64 d.h.f1, .int .i64 d.h.f2, .int .i64 d.h.f3, .int .i64 d.h.f4, .int .i64 d.h.f5, .int .i64 d.h.pair, .int .i64 d.h.pl, .slice q1 d.pairs.length k1, .int .i64 d.h.fn, .int .i64 d.h.fl, .slice q2 d.funs.length k2] 30) := ⟨_, rfl⟩
      rw [← hwA]
      have hAB : Below w2.heap.size w2 wA := by rw [hwA]; exact bAl _ _
      have HNB := hid (show wA.heap[w2.heap.size]? = some (.cells #[.int .i64 d.h.f0, .int .i64 d.h.f1, .int .i64 d.h.f2, .int .i64 d.h.f3, .int .i64 d.h.f4, .int .i64 d.h.f5, .int .i64 d.h.pair, .int .i64 d.h.pl, .slice q1 d.pairs.length k1, .int .i64 d.h.fn, .int .i64 d.h.fl, .slice q2 d.funs.length k2] 30 (0, 0)) by rw [hwA]; exact heap_alloc_new _ _)
      have ocA : wA.cell? ⟨(w.heap.size + 1 + 1), 8, none⟩ = some (.slice ra i rc) := (hAB.cell (p := ⟨_, 8, none⟩) (Nat.lt_of_lt_of_le HB.out.lt (Nat.le_trans HWD.out.size HB2.out.size))).trans oc2
      have hrow2 := (HROW.out.below HWD.out).below HB2.out
      obtain ⟨rs, hown, hraw⟩ := hrow2
      rw [HLE.out] at hown
      have HOA := hid (show wA.ownsRow W.heap.size 30 12 (.slice ra i rc) i (cosCells rs) by rw [hwA]; exact hown.alloc _)
      have HRAW := hid hraw
      have HWA := hid hwA
      have HW1 := hid (show W.heap.size ≤ wA.heap.size from Nat.le_trans HBT.out.size hAB.size)
      have HAB := hid hAB
      clear hAB hwA hown hraw
      clear hHeld
      refine hK.out _ _ (by (try dsimp only); exact HBT.out.then HAB.out) (fun hHeld => ?_)
      clear hK K
      (try simp only [pq1, ls0, ls1])
      refine' tk_call 1 ?hih (by kernel_rfl) ?hrh
      case hih => rfl
      intro K hK
      go_simp
      clear hHeld
      refine hK.out _ _ (by (try dsimp only); exact HBT.out.then HAB.out) (fun hHeld => ?_)
      clear hK K
      (try simp only [pq1, ls0, ls1])
      refine' tk_call 9 ?hii (by kernel_rfl) ?hri
      case hii => rfl
      intro K hK
      refine step_append_lies _ (by rfl) _ _ _ (by rfl) W.heap.size 30 i0 _ 12 128 Tryd.underlying28 hi hz0 hz1 hz2 rfl (by omega) (.slice ra i rc) i (cosCells rs) (by rfl) HOA.out ⟨w2.heap.size, 0, none⟩ 1 1 [.int .i64 d.h.f0, .int .i64 d.h.f1, .int .i64 d.h.f2, .int .i64 d.h.f3, .int .i64 d.h.f4, .int .i64 d.h.f5, .int .i64 d.h.pair, .int .i64 d.h.pl, .slice q1 d.pairs.length k1, .int .i64 d.h.fn, .int .i64 d.h.fl, .slice q2 d.funs.length k2] (by rfl) (by rfl) (World.news_of_block (cs := #[.int .i64 d.h.f0, .int .i64 d.h.f1, .int .i64 d.h.f2, .int .i64 d.h.f3, .int .i64 d.h.f4, .int .i64 d.h.f5, .int .i64 d.h.pair, .int .i64 d.h.pl, .slice q1 d.pairs.length k1, .int .i64 d.h.fn, .int .i64 d.h.fl, .slice q2 d.funs.length k2]) (t := 30) (fr := (0, 0)) HNB.out) (by simp [Value.oneCell']) (by omega) (by unfold maxLen; omega) (by omega) HW1.out wA.heap.size rfl ?_
      intro gg cap w9 hown9 hgrow9 hat9 hlt9
      have hb9 : But (w.heap.size + 1 + 1) W w9 := (HBT.out.then HAB.out).grown hgrow9 (fun x hx => (HOW.out x hx).1)
      have hbx9 : CBox w9 (w.heap.size + 1 + 1) 30 ⟨c.h, (.slice ra i rc), .slice none 0 0⟩ := (hgrow9.block _ (Nat.lt_of_lt_of_le HB.out.lt (Nat.le_trans HWD.out.size (Nat.le_trans HB2.out.size HAB.out.size))) (fun e => by have h1 := (HOW.out _ e.symm).1; have h2 := HLT.out.2.2; omega)).trans (((HB.out.keep HWD.out).keep HB2.out).keep HAB.out)
      have hrow9 : RowC 30 (fun x => (N x ∨ x = w.heap.size + 1) ∨ x = w.heap.size + 1 + 1) W.heap.size w9 (.slice (some ⟨gg, 0, none⟩) (i + 1) cap) (c.pairs.take (i + 1)) := by
       have h2 : RawCo w2 (fun b => Lc (fun x => (N x ∨ x = w.heap.size + 1) ∨ x = w.heap.size + 1 + 1) w2 b ∧ (Value.slice ra i rc).ownBlock ≠ some b) ⟨d.h, .slice q1 d.pairs.length k1, .slice q2 d.funs.length k2⟩ d := HU.out.raw.mono (fun b h => ⟨⟨h.1, fun e => h.2 (.inl e)⟩, fun e => h.2 (.inr e)⟩) fun _ _ _ => rfl
       have h1 := HRAW.out
       have hg9 := hgrow9
       rw [HWA.out] at hg9
       have hl9 : (Value.slice ra i rc).ownBlock = some gg ∨ gg = w2.heap.size + 1 := hat9.imp id fun h => by rw [h, HWA.out]; simp
       have hlen := HLE.out
       have h3 := rowc_push (l := c.pairs.take i) (cap := cap) h1 h2 hg9 hl9 (by rw [hlen]; exact hown9)
       rw [hlen] at h3
       rw [HTK.out]; exact h3
      have hc9 : w9.cell? ⟨(w.heap.size + 1 + 1), 8, none⟩ = some (.slice ra i rc) := hbx9.c8
      have hf9 : w9.frozen? ⟨(w.heap.size + 1 + 1), 8, none⟩ = false := hbx9.fr 8
      have HB9 := hid hb9
      have HBX9 := hid hbx9
      have HROW9 := hid hrow9
      clear hb9 hbx9 hrow9 hown9 hgrow9 hat9 hlt9
      clear hHeld
      refine hK.out _ _ (by (try dsimp only); exact HB9.out) (fun hHeld => ?_)
      clear hK K
      (try simp only [pq1, ls0, ls1])
      refine' tk_q 10 34 hHeld ?hij ?hrj
      case hij => (refine ⟨_, rfl, rfl, rfl, fun w hSw => ?_⟩; (try dsimp only at hSw); go_simp; (try with_reducible rfl))
      (try simp only [pq1, ls0, ls1])
      refine' tk_call 11 ?hik (by kernel_rfl) ?hrk
      case hik => rfl
      intro K hK
      go_simp
      clear hHeld
      refine hK.out _ _ (by (try dsimp only); exact HB9.out.set _ _) (fun hHeld => ?_)
      clear hK K
      (try simp only [pq1, ls0, ls1])
      refine wpAnyH_done (by kernel_rfl) ?_ _
      refine NoPanic.normal ?_
      go_wp2
      refine ⟨⟨i + 1, some ⟨gg, 0, none⟩, cap, HLT2.out, by go_num, hid HBX9.out.s8, hid (HROW9.out.store (.inr rfl) HLT.out.2.2), hid (HB9.out.set _ _)⟩, by have := HLT2.out; simp [intOf]; omega⟩
   ·
    have hin : i = np := by omega
    have htk : c.pairs.take i = c.pairs := by rw [hin, HPN.out, List.take_length]
    have hrow := HROW.out.done (fun b h => HNB1.out b h) (by rw [htk]; have := HT.out.1; unfold maxLen; omega)
    rw [htk] at hrow
    obtain ⟨W1, rfl⟩ : ∃ x, x = wr := ⟨_, rfl⟩
    obtain ⟨ra1, rfl⟩ : ∃ x, x = ra := ⟨_, rfl⟩
    obtain ⟨rc1, rfl⟩ : ∃ x, x = rc := ⟨_, rfl⟩
    rw [hin] at hrow HB
    have HROW1 := hid hrow
    replace HX := hid (HX.out.but HRL.out (by omega))
    replace HR := hid (HR.out.but HRL.out (by omega))
    replace HF := hid (CoSN.but HF.out HRL.out rfl)
    have HRW := hid HRL.out.size
    have HO := HB
    replace HLT := hid (show w.heap.size < W1.heap.size ∧ w.heap.size ≠ (w.heap.size + 1 + 1) ∧ (w.heap.size + 1 + 1) < W1.heap.size by have h1 := HLT.out; have h2 := HRL.out.size; exact ⟨by omega, by omega, by omega⟩)
    replace HNB1 := hid (fun b h => Nat.lt_of_lt_of_le (HNB1.out b h) HRL.out.size)
    replace HL := hid (HL.out.trans (HRL.out.below (B := w.heap.size) (by omega) (by have := HL.out.size; omega)))
    clear hrow htk hin HROW HRL HB
    have X8 := HX.out.c8
    have X11 := HX.out.c11
    go_wp2
    go_loopw [5] (fun iv wr => ToR (fun x => (N x ∨ x = w.heap.size + 1) ∨ x = w.heap.size + 1 + 1) nf (w.heap.size + 1 + 1) 30 (fun a i cp => ⟨c.h, .slice ra1 np rc1, (.slice a i cp)⟩) W1 c.funs iv wr) (fun iv _ => nf - (intOf iv).toNat)
    case atStart => exact ⟨0, none, 0, Nat.zero_le _, rfl, HO, hid RowC.nil, hid (But.refl _ _)⟩
    case round =>
     clear X8 X11
     obtain ⟨i, ra, rc, hi1, rfl, HB, HROW, HRL⟩ := hrel
     have hX8 := (HX.out.but HRL.out (by omega)).c11
     have px : wr.cell? ⟨w.heap.size, 11, none⟩ = some (.slice fa nf fc) := hX8
     clear hX8
     by_cases hlt : i < nf
     ·
      have hi0 : (0 : Int) ≤ (i : Int) := Int.natCast_nonneg _
      have hi2 : (i : Int) < (nf : Int) := by omega
      have hil : i < c.funs.length := by rw [← HFN.out]; exact hlt
      have hi12 : i ≤ 12 := by have := HT.out.2; rw [← HFN.out] at this; omega
      obtain ⟨d, hd⟩ : ∃ d, c.funs.getD i co0 = d := ⟨_, rfl⟩
      obtain ⟨b, off, p1, c1, p2, c2, rfl, hb, ⟨e0, e1, e2, e3, e4, e5, e6, e7, e8, e9, e10, e11⟩, hv⟩ := CoSN.elem2 HF.out hil hd
      have X11 : W1.cell? ⟨w.heap.size, 11, none⟩ = some (.slice (some ⟨b, off, none⟩) nf fc) := HX.out.c11
      have hb2 : b ≠ (w.heap.size + 1 + 1) := fun e => hb.2 e
      have HBL := hid (show b < W1.heap.size ∧ b ≠ (w.heap.size + 1 + 1) from ⟨hb.1, hb2⟩)
      have HV := hid (hv.but HRL.out rfl)
      have HSD := hid (show szC d ≤ n ∧ Thin d from ⟨by have h := szC_fun c i hil; rw [hd] at h; have := HN0.out; omega, by rw [← hd]; exact HTH.out.fun (getC_mem hil)⟩)
      have htk : c.funs.take (i + 1) = c.funs.take i ++ [d] := by
       rw [List.take_succ_eq_append_getElem hil, ← hd]; simp [List.getD_eq_getElem?_getD, hil]
      have HTK := hid htk
      have HLE := hid (show (c.funs.take i).length = i by rw [List.length_take]; omega)
      have HLT2 := hid hlt
      have oc : wr.cell? ⟨(w.heap.size + 1 + 1), 11, none⟩ = some (.slice ra i rc) := HB.out.c11
      have HOW := hid HROW.out.lt
      clear hd hv hb hb2 htk hil hlt
      go_upto_region 9 with fail
      (try dsimp only [List.append])
      refine wp_region_noPanic ?_
      refine wp_region_held_drew (S := (fun w' => But (w.heap.size + 1 + 1) W1 w')) (by kernel_rfl) (by (try dsimp only); exact HRL.out.then ((Below.refl _ _).drew)) (fun hHeld => ?_)
      have HWD := hid (show Below wr.heap.size wr wr.drew from (Below.refl _ _).drew)
      have ocd : wr.drew.cell? ⟨(w.heap.size + 1 + 1), 11, none⟩ = some (.slice ra i rc) := oc
      replace HV := hid (HV.out.below HWD.out)
      generalize wr.drew = wd at hHeld HWD HV ocd ⊢
      refine' tk_q 0 42 hHeld ?hil ?hrl
      case hil => (refine ⟨_, rfl, rfl, rfl, fun wz hSw => ?_⟩; (try dsimp only at hSw); go_simp; (try with_reducible rfl))
      (try simp only [pq1, ls0, ls1])
      refine' tk_q 2 44 hHeld ?him ?hrm
      case him => (refine ⟨_, rfl, rfl, rfl, fun wz hSw => ?_⟩; (try dsimp only at hSw); go_simp; (try with_reducible rfl))
      (try simp only [pq1, ls0, ls1])
      refine' tk_q 3 45 hHeld ?hin ?hrn
      case hin => (refine ⟨_, rfl, rfl, rfl, fun wz hSw => ?_⟩; (try dsimp only at hSw); have y8 := (hSw.cell (p := ⟨w.heap.size, 11, none⟩) HLT.out.1 HLT.out.2.1).trans X11; go_simp; (try with_reducible rfl))
      (try simp only [pq1, ls0, ls1])
      refine' tk_q 4 46 hHeld ?hio ?hro
      case hio => (refine ⟨_, rfl, rfl, rfl, fun wz hSw => ?_⟩; (try dsimp only at hSw); go_simp; (try with_reducible rfl))
      (try simp only [pq1, ls0, ls1])
      refine' tk_q 5 47 hHeld ?hip ?hrp
      case hip => (refine ⟨_, rfl, rfl, rfl, fun wz hSw => ?_⟩; (try dsimp only at hSw); go_simp; (try with_reducible rfl))
      (try simp only [pq1, ls0, ls1])
      refine' tk_q 6 48 hHeld ?hiq ?hrq
      case hiq => (refine ⟨_, rfl, rfl, rfl, fun wz hSw => ?_⟩; (try dsimp only at hSw); have y100 := (hSw.cell (p := ⟨b, _, none⟩) HBL.out.1 HBL.out.2).trans e0; have y101 := (hSw.cell (p := ⟨b, _, none⟩) HBL.out.1 HBL.out.2).trans e1; have y102 := (hSw.cell (p := ⟨b, _, none⟩) HBL.out.1 HBL.out.2).trans e2; have y103 := (hSw.cell (p := ⟨b, _, none⟩) HBL.out.1 HBL.out.2).trans e3; have y104 := (hSw.cell (p := ⟨b, _, none⟩) HBL.out.1 HBL.out.2).trans e4; have y105 := (hSw.cell (p := ⟨b, _, none⟩) HBL.out.1 HBL.out.2).trans e5; have y106 := (hSw.cell (p := ⟨b, _, none⟩) HBL.out.1 HBL.out.2).trans e6; have y107 := (hSw.cell (p := ⟨b, _, none⟩) HBL.out.1 HBL.out.2).trans e7; have y108 := (hSw.cell (p := ⟨b, _, none⟩) HBL.out.1 HBL.out.2).trans e8; have y109 := (hSw.cell (p := ⟨b, _, none⟩) HBL.out.1 HBL.out.2).trans e9; have y110 := (hSw.cell (p := ⟨b, _, none⟩) HBL.out.1 HBL.out.2).trans e10; have y111 := (hSw.cell (p := ⟨b, _, none⟩) HBL.out.1 HBL.out.2).trans e11; go_simp; (try with_reducible rfl))
      (try simp only [pq1, ls0, ls1])
      refine' tk_two 1 7 ?hir ?hjr (by kernel_rfl) ?har ?hbr
      case hir => rfl
      case hjr => rfl
      case har =>
       intro K hK
       go_simp
       clear hHeld
       refine hK.out _ _ (by (try dsimp only); exact HRL.out.then HWD.out) (fun hHeld => ?_)
       clear hK K
       (try simp only [pq1, ls0, ls1])
       refine' tk_call 7 ?his (by kernel_rfl) ?hrs
       case his => rfl
       intro K hK
       go_simp
       go_at_call 9
       refine (IH.out d _ wd (fun x => (fun x => (N x ∨ x = w.heap.size + 1) ∨ x = w.heap.size + 1 + 1) x ∨ (Value.slice ra i rc).ownBlock = some x) HSD.out.1 HSD.out.2 (fun x hx => hx.elim (fun h => Nat.lt_of_lt_of_le (HNB1.out x h) (by have h1 := HRL.out.size; have h2 := HWD.out.size; omega)) fun h => Nat.lt_of_lt_of_le (HOW.out x h).2 HWD.out.size) HV.out.cv).mono ?_
       rintro e w2 ⟨⟨u, rfl, hu⟩, hb⟩
       obtain ⟨q1, k1, q2, k2, rfl, _, _⟩ := hu.form
       have HU := hid hu
       have HB2 := hid hb
       have hbt : But (w.heap.size + 1 + 1) W1 w2 := (HRL.out.then HWD.out).then hb
       have HBT := hid hbt
       have oc2 : w2.cell? ⟨(w.heap.size + 1 + 1), 11, none⟩ = some (.slice ra i rc) := (hb.cell (p := ⟨_, 11, none⟩) (Nat.lt_of_lt_of_le HB.out.lt HWD.out.size)).trans ocd
       clear hu hb hbt
       go_wp2_with fail
       clear hHeld
       refine hK.out _ _ (by (try dsimp only); exact HBT.out) (fun hHeld => ?_)
       clear hK K
       (try simp only [pq1, ls0, ls1])
       refine' tk_call 8 ?hit (by kernel_rfl) ?hrt
       case hit => rfl
       intro K hK
       go_simp
       obtain ⟨wA, hwA⟩ : ∃ wA : World, wA = w2.alloc (.cells #[.int .i64 d.h.f0, .int .i64 d.h.f1, .int .i64 d.h.f2, .int .i64 d.h.f3, .int .i64 d.h.f4, .int .i64 d.h.f5, .int .i64 d.h.pair, .int .i64 d.h.pl, .slice q1 d.pairs.length k1, .int .i64 d.h.fn, .int .i64 d.h.fl, .slice q2 d.funs.length k2] 30) := ⟨_, rfl⟩
       rw [← hwA]
       have hAB : Below w2.heap.size w2 wA := by rw [hwA]; exact bAl _ _
       have HNB := hid (show wA.heap[w2.heap.size]? = some (.cells #[.int .i64 d.h.f0, .int .i64 d.h.f1, .int .i64 d.h.f2, .int .i64 d.h.f3, .int .i64 d.h.f4, .int .i64 d.h.f5, .int .i64 d.h.pair, .int .i64 d.h.pl, .slice q1 d.pairs.length k1, .int .i64 d.h.fn, .int .i64 d.h.fl, .slice q2 d.funs.length k2] 30 (0, 0)) by rw [hwA]; exact heap_alloc_new _ _)
       have ocA : wA.cell? ⟨(w.heap.size + 1 + 1), 11, none⟩ = some (.slice ra i rc) := (hAB.cell (p := ⟨_, 11, none⟩) (Nat.lt_of_lt_of_le HB.out.lt (Nat.le_trans HWD.out.size HB2.out.size))).trans oc2
       have hrow2 := (HROW.out.below HWD.out).below HB2.out
       obtain ⟨rs, hown, hraw⟩ := hrow2
       rw [HLE.out] at hown
       have HOA := hid (show wA.ownsRow W1.heap.size 30 12 (.slice ra i rc) i (cosCells rs) by rw [hwA]; exact hown.alloc _)
       have HRAW := hid hraw
       have HWA := hid hwA
       have HW1 := hid (show W1.heap.size ≤ wA.heap.size from Nat.le_trans HBT.out.size hAB.size)
       have HAB := hid hAB
       clear hAB hwA hown hraw
       clear hHeld
       refine hK.out _ _ (by (try dsimp only); exact HBT.out.then HAB.out) (fun hHeld => ?_)
       clear hK K
       (try simp only [pq1, ls0, ls1])
       refine' tk_call 9 ?hiu (by kernel_rfl) ?hru
       case hiu => rfl
       intro K hK
       refine step_append_lies _ (by rfl) _ _ _ (by rfl) W1.heap.size 30 i0 _ 12 128 Tryd.underlying28 hi hz0 hz1 hz2 rfl (by omega) (.slice ra i rc) i (cosCells rs) (by rfl) HOA.out ⟨w2.heap.size, 0, none⟩ 1 1 [.int .i64 d.h.f0, .int .i64 d.h.f1, .int .i64 d.h.f2, .int .i64 d.h.f3, .int .i64 d.h.f4, .int .i64 d.h.f5, .int .i64 d.h.pair, .int .i64 d.h.pl, .slice q1 d.pairs.length k1, .int .i64 d.h.fn, .int .i64 d.h.fl, .slice q2 d.funs.length k2] (by rfl) (by rfl) (World.news_of_block (cs := #[.int .i64 d.h.f0, .int .i64 d.h.f1, .int .i64 d.h.f2, .int .i64 d.h.f3, .int .i64 d.h.f4, .int .i64 d.h.f5, .int .i64 d.h.pair, .int .i64 d.h.pl, .slice q1 d.pairs.length k1, .int .i64 d.h.fn, .int .i64 d.h.fl, .slice q2 d.funs.length k2]) (t := 30) (fr := (0, 0)) HNB.out) (by simp [Value.oneCell']) (by omega) (by unfold maxLen; omega) (by omega) HW1.out wA.heap.size rfl ?_
       intro gg cap w9 hown9 hgrow9 hat9 hlt9
       have hb9 : But (w.heap.size + 1 + 1) W1 w9 := (HBT.out.then HAB.out).grown hgrow9 (fun x hx => (HOW.out x hx).1)
       have hbx9 : CBox w9 (w.heap.size + 1 + 1) 30 ⟨c.h, .slice ra1 np rc1, (.slice ra i rc)⟩ := (hgrow9.block _ (Nat.lt_of_lt_of_le HB.out.lt (Nat.le_trans HWD.out.size (Nat.le_trans HB2.out.size HAB.out.size))) (fun e => by have h1 := (HOW.out _ e.symm).1; have h2 := HLT.out.2.2; omega)).trans (((HB.out.keep HWD.out).keep HB2.out).keep HAB.out)
       have hrow9 : RowC 30 (fun x => (N x ∨ x = w.heap.size + 1) ∨ x = w.heap.size + 1 + 1) W1.heap.size w9 (.slice (some ⟨gg, 0, none⟩) (i + 1) cap) (c.funs.take (i + 1)) := by
        have h2 : RawCo w2 (fun b => Lc (fun x => (N x ∨ x = w.heap.size + 1) ∨ x = w.heap.size + 1 + 1) w2 b ∧ (Value.slice ra i rc).ownBlock ≠ some b) ⟨d.h, .slice q1 d.pairs.length k1, .slice q2 d.funs.length k2⟩ d := HU.out.raw.mono (fun b h => ⟨⟨h.1, fun e => h.2 (.inl e)⟩, fun e => h.2 (.inr e)⟩) fun _ _ _ => rfl
        have h1 := HRAW.out
        have hg9 := hgrow9
        rw [HWA.out] at hg9
        have hl9 : (Value.slice ra i rc).ownBlock = some gg ∨ gg = w2.heap.size + 1 := hat9.imp id fun h => by rw [h, HWA.out]; simp
        have hlen := HLE.out
        have h3 := rowc_push (l := c.funs.take i) (cap := cap) h1 h2 hg9 hl9 (by rw [hlen]; exact hown9)
        rw [hlen] at h3
        rw [HTK.out]; exact h3
       have hc9 : w9.cell? ⟨(w.heap.size + 1 + 1), 11, none⟩ = some (.slice ra i rc) := hbx9.c11
       have hf9 : w9.frozen? ⟨(w.heap.size + 1 + 1), 11, none⟩ = false := hbx9.fr 11
       have HB9 := hid hb9
       have HBX9 := hid hbx9
       have HROW9 := hid hrow9
       clear hb9 hbx9 hrow9 hown9 hgrow9 hat9 hlt9
       clear hHeld
       refine hK.out _ _ (by (try dsimp only); exact HB9.out) (fun hHeld => ?_)
       clear hK K
       (try simp only [pq1, ls0, ls1])
       refine' tk_q 10 52 hHeld ?hiv ?hrv
       case hiv => (refine ⟨_, rfl, rfl, rfl, fun w hSw => ?_⟩; (try dsimp only at hSw); go_simp; (try with_reducible rfl))
       (try simp only [pq1, ls0, ls1])
       refine' tk_call 11 ?hiw (by kernel_rfl) ?hrw
       case hiw => rfl
       intro K hK
       go_simp
       clear hHeld
       refine hK.out _ _ (by (try dsimp only); exact HB9.out.set _ _) (fun hHeld => ?_)
       clear hK K
       (try simp only [pq1, ls0, ls1])
       refine wpAnyH_done (by kernel_rfl) ?_ _
       refine NoPanic.normal ?_
       go_wp2
       refine ⟨⟨i + 1, some ⟨gg, 0, none⟩, cap, HLT2.out, by go_num, hid HBX9.out.s11, hid (HROW9.out.store (.inr rfl) HLT.out.2.2), hid (HB9.out.set _ _)⟩, by have := HLT2.out; simp [intOf]; omega⟩
      case hbr =>
       intro K hK
       go_simp
       go_at_call 9
       refine (IH.out d _ wd (fun x => (fun x => (N x ∨ x = w.heap.size + 1) ∨ x = w.heap.size + 1 + 1) x ∨ (Value.slice ra i rc).ownBlock = some x) HSD.out.1 HSD.out.2 (fun x hx => hx.elim (fun h => Nat.lt_of_lt_of_le (HNB1.out x h) (by have h1 := HRL.out.size; have h2 := HWD.out.size; omega)) fun h => Nat.lt_of_lt_of_le (HOW.out x h).2 HWD.out.size) HV.out.cv).mono ?_
       rintro e w2 ⟨⟨u, rfl, hu⟩, hb⟩
       obtain ⟨q1, k1, q2, k2, rfl, _, _⟩ := hu.form
       have HU := hid hu
       have HB2 := hid hb
       have hbt : But (w.heap.size + 1 + 1) W1 w2 := (HRL.out.then HWD.out).then hb
       have HBT := hid hbt
       have oc2 : w2.cell? ⟨(w.heap.size + 1 + 1), 11, none⟩ = some (.slice ra i rc) := (hb.cell (p := ⟨_, 11, none⟩) (Nat.lt_of_lt_of_le HB.out.lt HWD.out.size)).trans ocd
       clear hu hb hbt
       go_wp2_with fail
       clear hHeld
       refine hK.out _ _ (by (try dsimp only); exact HBT.out) (fun hHeld => ?_)
       clear hK K
       (try simp only [pq1, ls0, ls1])
       refine' tk_two 1 8 ?hix ?hjx (by kernel_rfl) ?hax ?hbx
       case hix => rfl
       case hjx => rfl
       case hax =>
        intro K hK
        go_simp
        clear hHeld
        refine hK.out _ _ (by (try dsimp only); exact HBT.out) (fun hHeld => ?_)
        clear hK K
        (try simp only [pq1, ls0, ls1])
        refine' tk_call 8 ?hiy (by kernel_rfl) ?hry
        case hiy => rfl
        intro K hK
        go_simp
        obtain ⟨wA, hwA⟩ : ∃ wA : World, wA = w2.alloc (.cells #[.int .i64 d.h.f0, .int .i64 d.h.f1, .int .i64 d.h.f2, .int .i64 d.h.f3, .int .i64 d.h.f4, .int .i64 d.h.f5, .int .i64 d.h.pair, .int .i64 d.h.pl, .slice q1 d.pairs.length k1, .int .i64 d.h.fn, .int .i64 d.h.fl, .slice q2 d.funs.length k2] 30) := ⟨_, rfl⟩
        rw [← hwA]
        have hAB : Below w2.heap.size w2 wA := by rw [hwA]; exact bAl _ _
        have HNB := hid (show wA.heap[w2.heap.size]? = some (.cells #[.int .i64 d.h.f0, .int .i64 d.h.f1, .int .i64 d.h.f2, .int .i64 d.h.f3, .int .i64 d.h.f4, .int .i64 d.h.f5, .int .i64 d.h.pair, .int .i64 d.h.pl, .slice q1 d.pairs.length k1, .int .i64 d.h.fn, .int .i64 d.h.fl, .slice q2 d.funs.length k2] 30 (0, 0)) by rw [hwA]; exact heap_alloc_new _ _)
        have ocA : wA.cell? ⟨(w.heap.size + 1 + 1), 11, none⟩ = some (.slice ra i rc) := (hAB.cell (p := ⟨_, 11, none⟩) (Nat.lt_of_lt_of_le HB.out.lt (Nat.le_trans HWD.out.size HB2.out.size))).trans oc2
        have hrow2 := (HROW.out.below HWD.out).below HB2.out
        obtain ⟨rs, hown, hraw⟩ := hrow2
        rw [HLE.out] at hown
        have HOA := hid (show wA.ownsRow W1.heap.size 30 12 (.slice ra i rc) i (cosCells rs) by rw [hwA]; exact hown.alloc _)
        have HRAW := hid hraw
        have HWA := hid hwA
        have HW1 := hid (show W1.heap.size ≤ wA.heap.size from Nat.le_trans HBT.out.size hAB.size)
        have HAB := hid hAB
        clear hAB hwA hown hraw
        clear hHeld
        refine hK.out _ _ (by (try dsimp only); exact HBT.out.then HAB.out) (fun hHeld => ?_)
        clear hK K
        (try simp only [pq1, ls0, ls1])
        refine' tk_call 9 ?hiz (by kernel_rfl) ?hrz
        case hiz => rfl
        intro K hK
        refine step_append_lies _ (by rfl) _ _ _ (by rfl) W1.heap.size 30 i0 _ 12 128 Tryd.underlying28 hi hz0 hz1 hz2 rfl (by omega) (.slice ra i rc) i (cosCells rs) (by rfl) HOA.out ⟨w2.heap.size, 0, none⟩ 1 1 [.int .i64 d.h.f0, .int .i64 d.h.f1, .int .i64 d.h.f2, .int .i64 d.h.f3, .int .i64 d.h.f4, .int .i64 d.h.f5, .int .i64 d.h.pair, .int .i64 d.h.pl, .slice q1 d.pairs.length k1, .int .i64 d.h.fn, .int .i64 d.h.fl, .slice q2 d.funs.length k2] (by rfl) (by rfl) (World.news_of_block (cs := #[.int .i64 d.h.f0, .int .i64 d.h.f1, .int .i64 d.h.f2, .int .i64 d.h.f3, .int .i64 d.h.f4, .int .i64 d.h.f5, .int .i64 d.h.pair, .int .i64 d.h.pl, .slice q1 d.pairs.length k1, .int .i64 d.h.fn, .int .i64 d.h.fl, .slice q2 d.funs.length k2]) (t := 30) (fr := (0, 0)) HNB.out) (by simp [Value.oneCell']) (by omega) (by unfold maxLen; omega) (by omega) HW1.out wA.heap.size rfl ?_
        intro gg cap w9 hown9 hgrow9 hat9 hlt9
        have hb9 : But (w.heap.size + 1 + 1) W1 w9 := (HBT.out.then HAB.out).grown hgrow9 (fun x hx => (HOW.out x hx).1)
        have hbx9 : CBox w9 (w.heap.size + 1 + 1) 30 ⟨c.h, .slice ra1 np rc1, (.slice ra i rc)⟩ := (hgrow9.block _ (Nat.lt_of_lt_of_le HB.out.lt (Nat.le_trans HWD.out.size (Nat.le_trans HB2.out.size HAB.out.size))) (fun e => by have h1 := (HOW.out _ e.symm).1; have h2 := HLT.out.2.2; omega)).trans (((HB.out.keep HWD.out).keep HB2.out).keep HAB.out)
        have hrow9 : RowC 30 (fun x => (N x ∨ x = w.heap.size + 1) ∨ x = w.heap.size + 1 + 1) W1.heap.size w9 (.slice (some ⟨gg, 0, none⟩) (i + 1) cap) (c.funs.take (i + 1)) := by
         have h2 : RawCo w2 (fun b => Lc (fun x => (N x ∨ x = w.heap.size + 1) ∨ x = w.heap.size + 1 + 1) w2 b ∧ (Value.slice ra i rc).ownBlock ≠ some b) ⟨d.h, .slice q1 d.pairs.length k1, .slice q2 d.funs.length k2⟩ d := HU.out.raw.mono (fun b h => ⟨⟨h.1, fun e => h.2 (.inl e)⟩, fun e => h.2 (.inr e)⟩) fun _ _ _ => rfl
         have h1 := HRAW.out
         have hg9 := hgrow9
         rw [HWA.out] at hg9
         have hl9 : (Value.slice ra i rc).ownBlock = some gg ∨ gg = w2.heap.size + 1 := hat9.imp id fun h => by rw [h, HWA.out]; simp
         have hlen := HLE.out
         have h3 := rowc_push (l := c.funs.take i) (cap := cap) h1 h2 hg9 hl9 (by rw [hlen]; exact hown9)
         rw [hlen] at h3
         rw [HTK.out]; exact h3
        have hc9 : w9.cell? ⟨(w.heap.size + 1 + 1), 11, none⟩ = some (.slice ra i rc) := hbx9.c11
        have hf9 : w9.frozen? ⟨(w.heap.size + 1 + 1), 11, none⟩ = false := hbx9.fr 11
        have HB9 := hid hb9
        have HBX9 := hid hbx9
        have HROW9 := hid hrow9
        clear hb9 hbx9 hrow9 hown9 hgrow9 hat9 hlt9
        clear hHeld
        refine hK.out _ _ (by (try dsimp only); exact HB9.out) (fun hHeld => ?_)
        clear hK K
        (try simp only [pq1, ls0, ls1])
        refine' tk_q 10 52 hHeld ?hi10 ?hr10
        case hi10 => (refine ⟨_, rfl, rfl, rfl, fun w hSw => ?_⟩; (try dsimp only at hSw); go_simp; (try with_reducible rfl))
        (try simp only [pq1, ls0, ls1])
        refine' tk_call 11 ?hi11 (by kernel_rfl) ?hr11
        case hi11 => rfl
        intro K hK
        go_simp
        clear hHeld
        refine hK.out _ _ (by (try dsimp only); exact HB9.out.set _ _) (fun hHeld => ?_)
        clear hK K
        (try simp only [pq1, ls0, ls1])
        refine wpAnyH_done (by kernel_rfl) ?_ _
        refine NoPanic.normal ?_
        go_wp2
        refine ⟨⟨i + 1, some ⟨gg, 0, none⟩, cap, HLT2.out, by go_num, hid HBX9.out.s11, hid (HROW9.out.store (.inr rfl) HLT.out.2.2), hid (HB9.out.set _ _)⟩, by have := HLT2.out; simp [intOf]; omega⟩
       case hbx =>
        intro K hK
        go_simp
        obtain ⟨wA, hwA⟩ : ∃ wA : World, wA = w2.alloc (.cells #[.int .i64 d.h.f0, .int .i64 d.h.f1, .int .i64 d.h.f2, .int .i64 d.h.f3, .int .i64 d.h.f4, .int .i64 d.h.f5, .int .i64 d.h.pair, .int .i64 d.h.pl, .slice q1 d.pairs.length k1, .int .i64 d.h.fn, .int .i64 d.h.fl, .slice q2 d.funs.length k2] 30) := ⟨_, rfl⟩
        rw [← hwA]
        have hAB : Below w2.heap.size w2 wA := by rw [hwA]; exact bAl _ _
        have HNB := hid (show wA.heap[w2.heap.size]? = some (.cells #[.int .i64 d.h.f0, .int .i64 d.h.f1, .int .i64 d.h.f2, .int .i64 d.h.f3, .int .i64 d.h.f4, .int .i64 d.h.f5, .int .i64 d.h.pair, .int .i64 d.h.pl, .slice q1 d.pairs.length k1, .int .i64 d.h.fn, .int .i64 d.h.fl, .slice q2 d.funs.length k2] 30 (0, 0)) by rw [hwA]; exact heap_alloc_new _ _)
        have ocA : wA.cell? ⟨(w.heap.size + 1 + 1), 11, none⟩ = some (.slice ra i rc) := (hAB.cell (p := ⟨_, 11, none⟩) (Nat.lt_of_lt_of_le HB.out.lt (Nat.le_trans HWD.out.size HB2.out.size))).trans oc2
        have hrow2 := (HROW.out.below HWD.out).below HB2.out
        obtain ⟨rs, hown, hraw⟩ := hrow2
        rw [HLE.out] at hown
        have HOA := hid (show wA.ownsRow W1.heap.size 30 12 (.slice ra i rc) i (cosCells rs) by rw [hwA]; exact hown.alloc _)
        have HRAW := hid hraw
        have HWA := hid hwA
        have HW1 := hid (show W1.heap.size ≤ wA.heap.size from Nat.le_trans HBT.out.size hAB.size)
        have HAB := hid hAB
        clear hAB hwA hown hraw
        clear hHeld
        refine hK.out _ _ (by (try dsimp only); exact HBT.out.then HAB.out) (fun hHeld => ?_)
        clear hK K
        (try simp only [pq1, ls0, ls1])
        refine' tk_call 1 ?hi12 (by kernel_rfl) ?hr12
        case hi12 => rfl
        intro K hK
        go_simp
        clear hHeld
        refine hK.out _ _ (by (try dsimp only); exact HBT.out.then HAB.out) (fun hHeld => ?_)
        clear hK K
        (try simp only [pq1, ls0, ls1])
        refine' tk_call 9 ?hi13 (by kernel_rfl) ?hr13
        case hi13 => rfl
        intro K hK
        refine step_append_lies _ (by rfl) _ _ _ (by rfl) W1.heap.size 30 i0 _ 12 128 Tryd.underlying28 hi hz0 hz1 hz2 rfl (by omega) (.slice ra i rc) i (cosCells rs) (by rfl) HOA.out ⟨w2.heap.size, 0, none⟩ 1 1 [.int .i64 d.h.f0, .int .i64 d.h.f1, .int .i64 d.h.f2, .int .i64 d.h.f3, .int .i64 d.h.f4, .int .i64 d.h.f5, .int .i64 d.h.pair, .int .i64 d.h.pl, .slice q1 d.pairs.length k1, .int .i64 d.h.fn, .int .i64 d.h.fl, .slice q2 d.funs.length k2] (by rfl) (by rfl) (World.news_of_block (cs := #[.int .i64 d.h.f0, .int .i64 d.h.f1, .int .i64 d.h.f2, .int .i64 d.h.f3, .int .i64 d.h.f4, .int .i64 d.h.f5, .int .i64 d.h.pair, .int .i64 d.h.pl, .slice q1 d.pairs.length k1, .int .i64 d.h.fn, .int .i64 d.h.fl, .slice q2 d.funs.length k2]) (t := 30) (fr := (0, 0)) HNB.out) (by simp [Value.oneCell']) (by omega) (by unfold maxLen; omega) (by omega) HW1.out wA.heap.size rfl ?_
        intro gg cap w9 hown9 hgrow9 hat9 hlt9
        have hb9 : But (w.heap.size + 1 + 1) W1 w9 := (HBT.out.then HAB.out).grown hgrow9 (fun x hx => (HOW.out x hx).1)
        have hbx9 : CBox w9 (w.heap.size + 1 + 1) 30 ⟨c.h, .slice ra1 np rc1, (.slice ra i rc)⟩ := (hgrow9.block _ (Nat.lt_of_lt_of_le HB.out.lt (Nat.le_trans HWD.out.size (Nat.le_trans HB2.out.size HAB.out.size))) (fun e => by have h1 := (HOW.out _ e.symm).1; have h2 := HLT.out.2.2; omega)).trans (((HB.out.keep HWD.out).keep HB2.out).keep HAB.out)
        have hrow9 : RowC 30 (fun x => (N x ∨ x = w.heap.size + 1) ∨ x = w.heap.size + 1 + 1) W1.heap.size w9 (.slice (some ⟨gg, 0, none⟩) (i + 1) cap) (c.funs.take (i + 1)) := by
         have h2 : RawCo w2 (fun b => Lc (fun x => (N x ∨ x = w.heap.size + 1) ∨ x = w.heap.size + 1 + 1) w2 b ∧ (Value.slice ra i rc).ownBlock ≠ some b) ⟨d.h, .slice q1 d.pairs.length k1, .slice q2 d.funs.length k2⟩ d := HU.out.raw.mono (fun b h => ⟨⟨h.1, fun e => h.2 (.inl e)⟩, fun e => h.2 (.inr e)⟩) fun _ _ _ => rfl
         have h1 := HRAW.out
         have hg9 := hgrow9
         rw [HWA.out] at hg9
         have hl9 : (Value.slice ra i rc).ownBlock = some gg ∨ gg = w2.heap.size + 1 := hat9.imp id fun h => by rw [h, HWA.out]; simp
         have hlen := HLE.out
         have h3 := rowc_push (l := c.funs.take i) (cap := cap) h1 h2 hg9 hl9 (by rw [hlen]; exact hown9)
         rw [hlen] at h3
         rw [HTK.out]; exact h3
        have hc9 : w9.cell? ⟨(w.heap.size + 1 + 1), 11, none⟩ = some (.slice ra i rc) := hbx9.c11
        have hf9 : w9.frozen? ⟨(w.heap.size + 1 + 1), 11, none⟩ = false := hbx9.fr 11
        have HB9 := hid hb9
        have HBX9 := hid hbx9
        have HROW9 := hid hrow9
        clear hb9 hbx9 hrow9 hown9 hgrow9 hat9 hlt9
        clear hHeld
        refine hK.out _ _ (by (try dsimp only); exact HB9.out) (fun hHeld => ?_)
        clear hK K
        (try simp only [pq1, ls0, ls1])
        refine' tk_q 10 52 hHeld ?hi14 ?hr14
        case hi14 => (refine ⟨_, rfl, rfl, rfl, fun w hSw => ?_⟩; (try dsimp only at hSw); go_simp; (try with_reducible rfl))
        (try simp only [pq1, ls0, ls1])
        refine' tk_call 11 ?hi15 (by kernel_rfl) ?hr15
        case hi15 => rfl
        intro K hK
        go_simp
        clear hHeld
        refine hK.out _ _ (by (try dsimp only); exact HB9.out.set _ _) (fun hHeld => ?_)
        clear hK K
        (try simp only [pq1, ls0, ls1])
        refine wpAnyH_done (by kernel_rfl) ?_ _
        refine NoPanic.normal ?_
        go_wp2
        refine ⟨⟨i + 1, some ⟨gg, 0, none⟩, cap, HLT2.out, by go_num, hid HBX9.out.s11, hid (HROW9.out.store (.inr rfl) HLT.out.2.2), hid (HB9.out.set _ _)⟩, by have := HLT2.out; simp [intOf]; omega⟩
     ·
      have hin : i = nf := by omega
      have htk : c.funs.take i = c.funs := by rw [hin, HFN.out, List.take_length]
      have hrow := HROW.out.done (fun b h => by have := HNB1.out b h; have := HRW.out; omega) (by rw [htk]; have := HT.out.2; unfold maxLen; omega)
      rw [htk] at hrow
      rw [hin] at hrow HB
      have HRF := hid hrow
      have HR1 := hid (CoSN.but HROW1.out HRL.out (.inr rfl))
      have hr := HR.out.but HRL.out (by omega)
      have HRB := hid hr
      have HLB := hid (HL.out.trans (HRL.out.below (B := w.heap.size) (by omega) (by have := HL.out.size; omega)))
      obtain ⟨o0, o1, o2, o3, o4, o5, o6, o7, o8, o9, o10, o11⟩ := HB.out.cs
      (try dsimp only at o0 o1 o2 o3 o4 o5 o6 o7 o8 o9 o10 o11)
      obtain ⟨r0, r1, r2, r3, r4, r5, r6, r7, r8, r9, r10, r11⟩ := HRB.out.cs
      (try dsimp only at r0 r1 r2 r3 r4 r5 r6 r7 r8 r9 r10 r11)
      obtain ⟨fr0, fr1, fr2, fr3, fr4, fr5, fr6, fr7, fr8, fr9, fr10, fr11⟩ := HRB.out.frs
      clear hrow hr htk hin HROW HRL HB
      go_wp2
      have HPOST := hid (show CoPost N (c) w (.returned (coV ⟨c.h, .slice ra1 np rc1, .slice ra nf rc⟩)) (set12 (wr) (w.heap.size + 1) ⟨c.h, .slice ra1 np rc1, .slice ra nf rc⟩) from by rw [c.eta]; exact ⟨⟨_, rfl, (CoVN.set12 (g := w.heap.size + 1) (CoVN.mk (h := c.h) HR1.out HRF.out) (.inl (.inr rfl))).mono fun _ _ h => .inl (.inl h)⟩, Below.set12 (g := w.heap.size + 1) HLB.out (by omega)⟩)
      refine ret12 (wr) (w.heap.size + 1) ⟨c.h, .slice ra1 np rc1, .slice ra nf rc⟩ (HRB.out) HPOST.out (fun wf hb => ?_) rfl
      obtain ⟨z0, z1, z2, z3, z4, z5, z6, z7, z8, z9, z10, z11⟩ := hb.cs
      simp [results, Tryd.results9, go_sem, coV, z0, z1, z2, z3, z4, z5, z6, z7, z8, z9, z10, z11]
end Go.Proofs.YtlalnkabfigodaaDoor

import Derived.Test.YtlalnkabfigodaaDoorCoL
namespace Go.Proofs.YtlalnkabfigodaaDoor
open Go.RowKit

theorem Tryd.infoCR : (Tryd.prog.info? 30).map (fun i => (i.zero, i.size, i.bytes)) = some (some (.agg #[.int .i64 0, .int .i64 0, .int .i64 0, .int .i64 0, .int .i64 0, .int .i64 0, .int .i64 0, .int .i64 0, .slice none 0 0, .int .i64 0, .int .i64 0, .slice none 0 0]), 12, 128) := by kernel_rfl
def ToR (N : Nat → Prop) (m go : Nat) (T : TypeId) (raw : Option Addr → Nat → Nat → RawC) (W : World) (l : List Co) (iv : Value) (wr : World) : Prop :=
  ∃ (i : Nat) (a : Option Addr) (cp : Nat), i ≤ m ∧ iv = .int .i64 i ∧ Hid (CBox wr go T (raw a i cp)) ∧ Hid (RowC T N W.heap.size wr (.slice a i cp) (l.take i)) ∧ Hid (But go W wr)

set_option maxRecDepth 100000 in
set_option maxHeartbeats 32000000 in
theorem to7_go (n : Nat) : ∀ (c : Co) (v : Value) (w : World) (N : Nat → Prop), szC c ≤ n → Thin c → (∀ b, N b → b < w.heap.size) → CoV w v c → Calls Tryd.prog 9 #[v] w (CoPost N c w) := by
  induction n with
  | zero => intro c v w N h; have := szC_pos c; omega
  | succ n ih =>
    intro c v w N hn hth hN hv
    obtain ⟨i0, hi, hz0, hz1, hz2⟩ := info_parts Tryd.infoCR
    have IH := Lib.hid ih
    have HN0 := Lib.hid hn
    have HT := Lib.hid hth.len
    have HTH := Lib.hid hth
    clear ih hn hth
    obtain ⟨pa, pc, fa, fc, rfl, hp, hf⟩ := hv.form
    obtain ⟨np, hnp⟩ : ∃ n, n = c.pairs.length := ⟨_, rfl⟩
    obtain ⟨nf, hnf⟩ : ∃ n, n = c.funs.length := ⟨_, rfl⟩
    rw [← hnp] at hp ⊢
    rw [← hnf] at hf ⊢
    have bp : (np : Int) ≤ 12 := by have := HT.out.1; omega
    have bf : (nf : Int) ≤ 12 := by have := HT.out.2; omega
    obtain ⟨W, hW⟩ : ∃ W, W = ((w.alloc (.cells #[.int .i64 c.h.f0, .int .i64 c.h.f1, .int .i64 c.h.f2, .int .i64 c.h.f3, .int .i64 c.h.f4, .int .i64 c.h.f5, .int .i64 c.h.pair, .int .i64 c.h.pl, .slice pa np pc, .int .i64 c.h.fn, .int .i64 c.h.fl, .slice fa nf fc] 25)).alloc (.cells #[.int .i64 0, .int .i64 0, .int .i64 0, .int .i64 0, .int .i64 0, .int .i64 0, .int .i64 0, .int .i64 0, .slice none 0 0, .int .i64 0, .int .i64 0, .slice none 0 0] 30)).alloc (.cells #[.int .i64 c.h.f0, .int .i64 c.h.f1, .int .i64 c.h.f2, .int .i64 c.h.f3, .int .i64 c.h.f4, .int .i64 c.h.f5, .int .i64 c.h.pair, .int .i64 c.h.pl, .slice none 0 0, .int .i64 c.h.fn, .int .i64 c.h.fl, .slice none 0 0] 30) := ⟨_, rfl⟩
    have hb1 : Below w.heap.size w (w.alloc (.cells #[.int .i64 c.h.f0, .int .i64 c.h.f1, .int .i64 c.h.f2, .int .i64 c.h.f3, .int .i64 c.h.f4, .int .i64 c.h.f5, .int .i64 c.h.pair, .int .i64 c.h.pl, .slice pa np pc, .int .i64 c.h.fn, .int .i64 c.h.fl, .slice fa nf fc] 25)) := (Below.refl _ _).alloc (Nat.le_refl _) _
    have HX := Lib.hid (show CBox W w.heap.size 25 ⟨c.h, .slice pa np pc, .slice fa nf fc⟩ by rw [hW]; exact ((CBox.made w 25 ⟨c.h, .slice pa np pc, .slice fa nf fc⟩).keep ((Below.refl _ _).alloc (Nat.le_refl _) _)).keep ((Below.refl _ _).alloc (Nat.le_refl _) _))
    have HR := Lib.hid (show CBox W (w.heap.size + 1) 30 ⟨⟨0, 0, 0, 0, 0, 0, 0, 0, 0, 0⟩, .slice none 0 0, .slice none 0 0⟩ by rw [hW]; have h := (CBox.made (w.alloc (.cells #[.int .i64 c.h.f0, .int .i64 c.h.f1, .int .i64 c.h.f2, .int .i64 c.h.f3, .int .i64 c.h.f4, .int .i64 c.h.f5, .int .i64 c.h.pair, .int .i64 c.h.pl, .slice pa np pc, .int .i64 c.h.fn, .int .i64 c.h.fl, .slice fa nf fc] 25)) 30 ⟨⟨0, 0, 0, 0, 0, 0, 0, 0, 0, 0⟩, .slice none 0 0, .slice none 0 0⟩).keep ((Below.refl _ _).alloc (Nat.le_refl _) (.cells #[.int .i64 c.h.f0, .int .i64 c.h.f1, .int .i64 c.h.f2, .int .i64 c.h.f3, .int .i64 c.h.f4, .int .i64 c.h.f5, .int .i64 c.h.pair, .int .i64 c.h.pl, .slice none 0 0, .int .i64 c.h.fn, .int .i64 c.h.fl, .slice none 0 0] 30)); simpa using h)
    have HO := Lib.hid (show CBox W (w.heap.size + 1 + 1) 30 ⟨c.h, .slice none 0 0, .slice none 0 0⟩ by rw [hW]; have h := CBox.made ((w.alloc (.cells #[.int .i64 c.h.f0, .int .i64 c.h.f1, .int .i64 c.h.f2, .int .i64 c.h.f3, .int .i64 c.h.f4, .int .i64 c.h.f5, .int .i64 c.h.pair, .int .i64 c.h.pl, .slice pa np pc, .int .i64 c.h.fn, .int .i64 c.h.fl, .slice fa nf fc] 25)).alloc (.cells #[.int .i64 0, .int .i64 0, .int .i64 0, .int .i64 0, .int .i64 0, .int .i64 0, .int .i64 0, .int .i64 0, .slice none 0 0, .int .i64 0, .int .i64 0, .slice none 0 0] 30)) 30 ⟨c.h, .slice none 0 0, .slice none 0 0⟩; simpa using h)
    have HL := Lib.hid (show Below w.heap.size w W by rw [hW]; exact (((Below.refl _ _).alloc (Nat.le_refl _) _).alloc (by simp) _).alloc (by simp <;> omega) _)
    have hsz : W.heap.size = w.heap.size + 1 + 1 + 1 := by rw [hW]; simp
    have HLT := Lib.hid (show w.heap.size < W.heap.size ∧ w.heap.size ≠ (w.heap.size + 1 + 1) ∧ (w.heap.size + 1 + 1) < W.heap.size by rw [hsz]; exact ⟨by omega, by omega, by omega⟩)
    have HP := Lib.hid (CoSN.later (M := fun x => x = (w.heap.size + 1 + 1)) hp HL.out (fun x h => .inr (by omega)))
    have HF := Lib.hid (CoSN.later (M := fun x => x = (w.heap.size + 1 + 1)) hf HL.out (fun x h => .inr (by omega)))
    have HNB1 := Lib.hid (show ∀ b, (fun x => (N x ∨ x = w.heap.size + 1) ∨ x = w.heap.size + 1 + 1) b → b < W.heap.size from fun b h => by
      rcases h with (h | h) | h
      · have := hN b h; omega
      · omega
      · omega)
    have HPN := Lib.hid hnp
    have HFN := Lib.hid hnf
    have HW := Lib.hid hW
    clear hp hf hnp hnf hW hb1 hsz hN hv
    have X8 := HX.out.c8
    have X11 := HX.out.c11
    go_enter Tryd.func9, Tryd.ntmps9
    go_wp2
    rw [← HW.out]
    clear HW
    go_loopw [4] (fun iv wr => ToR (fun x => (N x ∨ x = w.heap.size + 1) ∨ x = w.heap.size + 1 + 1) np (w.heap.size + 1 + 1) 30 (fun a i cp => ⟨c.h, (.slice a i cp), .slice none 0 0⟩) W c.pairs iv wr) (fun iv _ => np - (intOf iv).toNat)
    case atStart => exact ⟨0, none, 0, Nat.zero_le _, rfl, HO, Lib.hid RowC.nil, Lib.hid (But.refl _ _)⟩
    case round =>
      clear X8 X11
      obtain ⟨i, ra, rc, hi1, rfl, HB, HROW, HRL⟩ := hrel
      have hX8 := (HX.out.but HRL.out (by omega)).c8
      have px : wr.cell? ⟨w.heap.size, 8, none⟩ = some (.slice pa np pc) := hX8
      clear hX8
      by_cases hlt : i < np
      · have hi0 : (0 : Int) ≤ (i : Int) := Int.natCast_nonneg _
        have hi2 : (i : Int) < (np : Int) := by omega
        have hil : i < c.pairs.length := by rw [← HPN.out]; exact hlt
        have hi12 : i ≤ 12 := by have := HT.out.1; rw [← HPN.out] at this; omega
        obtain ⟨d, hd⟩ : ∃ d, c.pairs.getD i co0 = d := ⟨_, rfl⟩
        obtain ⟨b, off, p1, c1, p2, c2, rfl, hb, ⟨e0, e1, e2, e3, e4, e5, e6, e7, e8, e9, e10, e11⟩, hv⟩ := CoSN.elem2 HP.out hil hd
        have X8 : W.cell? ⟨w.heap.size, 8, none⟩ = some (.slice (some ⟨b, off, none⟩) np pc) := HX.out.c8
        have hb2 : b ≠ (w.heap.size + 1 + 1) := fun e => hb.2 e
        have HBL := Lib.hid (show b < W.heap.size ∧ b ≠ (w.heap.size + 1 + 1) from ⟨hb.1, hb2⟩)
        have HV := Lib.hid (hv.but HRL.out rfl)
        have HSD := Lib.hid (show szC d ≤ n ∧ Thin d from ⟨by have h := szC_pair c i hil; rw [hd] at h; have := HN0.out; omega, by rw [← hd]; exact HTH.out.pair (getC_mem hil)⟩)
        have htk : c.pairs.take (i + 1) = c.pairs.take i ++ [d] := by
          rw [List.take_succ_eq_append_getElem hil, ← hd]; simp [List.getD_eq_getElem?_getD, hil]
        have HTK := Lib.hid htk
        have HLE := Lib.hid (show (c.pairs.take i).length = i by rw [List.length_take]; omega)
        have HLT2 := Lib.hid hlt
        have oc : wr.cell? ⟨(w.heap.size + 1 + 1), 8, none⟩ = some (.slice ra i rc) := HB.out.c8
        have HOW := Lib.hid HROW.out.lt
        clear hd hv hb hb2 htk hil hlt
        go_upto_region 5 with fail
        (try dsimp only [List.append])
        refine wp_region_noPanic ?_
        refine wp_region_held_drew (S := (fun w' => But (w.heap.size + 1 + 1) W w')) (by kernel_rfl) (by (try dsimp only); exact HRL.out.then ((Below.refl _ _).drew)) (fun hHeld => ?_)
        have HWD := Lib.hid (show Below wr.heap.size wr wr.drew from (Below.refl _ _).drew)
        have ocd : wr.drew.cell? ⟨(w.heap.size + 1 + 1), 8, none⟩ = some (.slice ra i rc) := oc
        replace HV := Lib.hid (HV.out.below HWD.out)
        generalize wr.drew = wd at hHeld HWD HV ocd ⊢
        refine' tk_any 0 24 (v := _) ?hi70022 ?hd70022 (by kernel_rfl) (by kernel_rfl) (by kernel_rfl) (fun _ _ _ h => h) ?hy70022 hHeld ?hr70022
        case hi70022 => (simp only [List.getElem?_toArray, List.getElem?_cons_zero]; rfl)
        case hd70022 => rfl
        case hy70022 =>
          refine' Or.inl ⟨?hw70022, ?hx70022⟩
          case hw70022 => rfl
          case hx70022 => (intro wz hSw; (try dsimp only at hSw); have y8 := (hSw.cell (p := ⟨w.heap.size, 8, none⟩) HLT.out.1 HLT.out.2.1).trans X8; have y100 := (hSw.cell (p := ⟨b, _, none⟩) HBL.out.1 HBL.out.2).trans e0; have y101 := (hSw.cell (p := ⟨b, _, none⟩) HBL.out.1 HBL.out.2).trans e1; have y102 := (hSw.cell (p := ⟨b, _, none⟩) HBL.out.1 HBL.out.2).trans e2; have y103 := (hSw.cell (p := ⟨b, _, none⟩) HBL.out.1 HBL.out.2).trans e3; have y104 := (hSw.cell (p := ⟨b, _, none⟩) HBL.out.1 HBL.out.2).trans e4; have y105 := (hSw.cell (p := ⟨b, _, none⟩) HBL.out.1 HBL.out.2).trans e5; have y106 := (hSw.cell (p := ⟨b, _, none⟩) HBL.out.1 HBL.out.2).trans e6; have y107 := (hSw.cell (p := ⟨b, _, none⟩) HBL.out.1 HBL.out.2).trans e7; have y108 := (hSw.cell (p := ⟨b, _, none⟩) HBL.out.1 HBL.out.2).trans e8; have y109 := (hSw.cell (p := ⟨b, _, none⟩) HBL.out.1 HBL.out.2).trans e9; have y110 := (hSw.cell (p := ⟨b, _, none⟩) HBL.out.1 HBL.out.2).trans e10; have y111 := (hSw.cell (p := ⟨b, _, none⟩) HBL.out.1 HBL.out.2).trans e11; go_simp; (try with_reducible rfl))
        (try simp only [Act.put, List.setIfInBounds_toArray, List.set_cons_zero, List.set_cons_succ])
        refine' tk_any 2 26 (v := _) ?hi70023 ?hd70023 (by kernel_rfl) (by kernel_rfl) (by kernel_rfl) (fun _ _ _ h => h) ?hy70023 hHeld ?hr70023
        case hi70023 => (simp only [List.getElem?_toArray, List.getElem?_cons_succ, List.getElem?_cons_zero]; rfl)
        case hd70023 => rfl
        case hy70023 =>
          refine' Or.inl ⟨?hw70023, ?hx70023⟩
          case hw70023 => rfl
          case hx70023 => (intro wz hSw; (try dsimp only at hSw); have y8 := (hSw.cell (p := ⟨w.heap.size, 8, none⟩) HLT.out.1 HLT.out.2.1).trans X8; have y100 := (hSw.cell (p := ⟨b, _, none⟩) HBL.out.1 HBL.out.2).trans e0; have y101 := (hSw.cell (p := ⟨b, _, none⟩) HBL.out.1 HBL.out.2).trans e1; have y102 := (hSw.cell (p := ⟨b, _, none⟩) HBL.out.1 HBL.out.2).trans e2; have y103 := (hSw.cell (p := ⟨b, _, none⟩) HBL.out.1 HBL.out.2).trans e3; have y104 := (hSw.cell (p := ⟨b, _, none⟩) HBL.out.1 HBL.out.2).trans e4; have y105 := (hSw.cell (p := ⟨b, _, none⟩) HBL.out.1 HBL.out.2).trans e5; have y106 := (hSw.cell (p := ⟨b, _, none⟩) HBL.out.1 HBL.out.2).trans e6; have y107 := (hSw.cell (p := ⟨b, _, none⟩) HBL.out.1 HBL.out.2).trans e7; have y108 := (hSw.cell (p := ⟨b, _, none⟩) HBL.out.1 HBL.out.2).trans e8; have y109 := (hSw.cell (p := ⟨b, _, none⟩) HBL.out.1 HBL.out.2).trans e9; have y110 := (hSw.cell (p := ⟨b, _, none⟩) HBL.out.1 HBL.out.2).trans e10; have y111 := (hSw.cell (p := ⟨b, _, none⟩) HBL.out.1 HBL.out.2).trans e11; go_simp; (try with_reducible rfl))
        (try simp only [Act.put, List.setIfInBounds_toArray, List.set_cons_zero, List.set_cons_succ])
        refine' tk_any 3 27 (v := _) ?hi70024 ?hd70024 (by kernel_rfl) (by kernel_rfl) (by kernel_rfl) (fun _ _ _ h => h) ?hy70024 hHeld ?hr70024
        case hi70024 => (simp only [List.getElem?_toArray, List.getElem?_cons_succ, List.getElem?_cons_zero]; rfl)
        case hd70024 => rfl
        case hy70024 =>
          refine' Or.inl ⟨?hw70024, ?hx70024⟩
          case hw70024 => rfl
          case hx70024 => (intro wz hSw; (try dsimp only at hSw); have y8 := (hSw.cell (p := ⟨w.heap.size, 8, none⟩) HLT.out.1 HLT.out.2.1).trans X8; have y100 := (hSw.cell (p := ⟨b, _, none⟩) HBL.out.1 HBL.out.2).trans e0; have y101 := (hSw.cell (p := ⟨b, _, none⟩) HBL.out.1 HBL.out.2).trans e1; have y102 := (hSw.cell (p := ⟨b, _, none⟩) HBL.out.1 HBL.out.2).trans e2; have y103 := (hSw.cell (p := ⟨b, _, none⟩) HBL.out.1 HBL.out.2).trans e3; have y104 := (hSw.cell (p := ⟨b, _, none⟩) HBL.out.1 HBL.out.2).trans e4; have y105 := (hSw.cell (p := ⟨b, _, none⟩) HBL.out.1 HBL.out.2).trans e5; have y106 := (hSw.cell (p := ⟨b, _, none⟩) HBL.out.1 HBL.out.2).trans e6; have y107 := (hSw.cell (p := ⟨b, _, none⟩) HBL.out.1 HBL.out.2).trans e7; have y108 := (hSw.cell (p := ⟨b, _, none⟩) HBL.out.1 HBL.out.2).trans e8; have y109 := (hSw.cell (p := ⟨b, _, none⟩) HBL.out.1 HBL.out.2).trans e9; have y110 := (hSw.cell (p := ⟨b, _, none⟩) HBL.out.1 HBL.out.2).trans e10; have y111 := (hSw.cell (p := ⟨b, _, none⟩) HBL.out.1 HBL.out.2).trans e11; go_simp; (try with_reducible rfl))
        (try simp only [Act.put, List.setIfInBounds_toArray, List.set_cons_zero, List.set_cons_succ])
        refine' tk_any 4 28 (v := _) ?hi70025 ?hd70025 (by kernel_rfl) (by kernel_rfl) (by kernel_rfl) (fun _ _ _ h => h) ?hy70025 hHeld ?hr70025
        case hi70025 => (simp only [List.getElem?_toArray, List.getElem?_cons_succ, List.getElem?_cons_zero]; rfl)
        case hd70025 => rfl
        case hy70025 =>
          refine' Or.inl ⟨?hw70025, ?hx70025⟩
          case hw70025 => rfl
          case hx70025 => (intro wz hSw; (try dsimp only at hSw); have y8 := (hSw.cell (p := ⟨w.heap.size, 8, none⟩) HLT.out.1 HLT.out.2.1).trans X8; have y100 := (hSw.cell (p := ⟨b, _, none⟩) HBL.out.1 HBL.out.2).trans e0; have y101 := (hSw.cell (p := ⟨b, _, none⟩) HBL.out.1 HBL.out.2).trans e1; have y102 := (hSw.cell (p := ⟨b, _, none⟩) HBL.out.1 HBL.out.2).trans e2; have y103 := (hSw.cell (p := ⟨b, _, none⟩) HBL.out.1 HBL.out.2).trans e3; have y104 := (hSw.cell (p := ⟨b, _, none⟩) HBL.out.1 HBL.out.2).trans e4; have y105 := (hSw.cell (p := ⟨b, _, none⟩) HBL.out.1 HBL.out.2).trans e5; have y106 := (hSw.cell (p := ⟨b, _, none⟩) HBL.out.1 HBL.out.2).trans e6; have y107 := (hSw.cell (p := ⟨b, _, none⟩) HBL.out.1 HBL.out.2).trans e7; have y108 := (hSw.cell (p := ⟨b, _, none⟩) HBL.out.1 HBL.out.2).trans e8; have y109 := (hSw.cell (p := ⟨b, _, none⟩) HBL.out.1 HBL.out.2).trans e9; have y110 := (hSw.cell (p := ⟨b, _, none⟩) HBL.out.1 HBL.out.2).trans e10; have y111 := (hSw.cell (p := ⟨b, _, none⟩) HBL.out.1 HBL.out.2).trans e11; go_simp; (try with_reducible rfl))
        (try simp only [Act.put, List.setIfInBounds_toArray, List.set_cons_zero, List.set_cons_succ])
        refine' tk_any 5 29 (v := _) ?hi70026 ?hd70026 (by kernel_rfl) (by kernel_rfl) (by kernel_rfl) (fun _ _ _ h => h) ?hy70026 hHeld ?hr70026
        case hi70026 => (simp only [List.getElem?_toArray, List.getElem?_cons_succ, List.getElem?_cons_zero]; rfl)
        case hd70026 => rfl
        case hy70026 =>
          refine' Or.inl ⟨?hw70026, ?hx70026⟩
          case hw70026 => rfl
          case hx70026 => (intro wz hSw; (try dsimp only at hSw); have y8 := (hSw.cell (p := ⟨w.heap.size, 8, none⟩) HLT.out.1 HLT.out.2.1).trans X8; have y100 := (hSw.cell (p := ⟨b, _, none⟩) HBL.out.1 HBL.out.2).trans e0; have y101 := (hSw.cell (p := ⟨b, _, none⟩) HBL.out.1 HBL.out.2).trans e1; have y102 := (hSw.cell (p := ⟨b, _, none⟩) HBL.out.1 HBL.out.2).trans e2; have y103 := (hSw.cell (p := ⟨b, _, none⟩) HBL.out.1 HBL.out.2).trans e3; have y104 := (hSw.cell (p := ⟨b, _, none⟩) HBL.out.1 HBL.out.2).trans e4; have y105 := (hSw.cell (p := ⟨b, _, none⟩) HBL.out.1 HBL.out.2).trans e5; have y106 := (hSw.cell (p := ⟨b, _, none⟩) HBL.out.1 HBL.out.2).trans e6; have y107 := (hSw.cell (p := ⟨b, _, none⟩) HBL.out.1 HBL.out.2).trans e7; have y108 := (hSw.cell (p := ⟨b, _, none⟩) HBL.out.1 HBL.out.2).trans e8; have y109 := (hSw.cell (p := ⟨b, _, none⟩) HBL.out.1 HBL.out.2).trans e9; have y110 := (hSw.cell (p := ⟨b, _, none⟩) HBL.out.1 HBL.out.2).trans e10; have y111 := (hSw.cell (p := ⟨b, _, none⟩) HBL.out.1 HBL.out.2).trans e11; go_simp; (try with_reducible rfl))
        (try simp only [Act.put, List.setIfInBounds_toArray, List.set_cons_zero, List.set_cons_succ])
        refine' tk_any 6 30 (v := _) ?hi70027 ?hd70027 (by kernel_rfl) (by kernel_rfl) (by kernel_rfl) (fun _ _ _ h => h) ?hy70027 hHeld ?hr70027
        case hi70027 => (simp only [List.getElem?_toArray, List.getElem?_cons_succ, List.getElem?_cons_zero]; rfl)
        case hd70027 => rfl
        case hy70027 =>
          refine' Or.inl ⟨?hw70027, ?hx70027⟩
          case hw70027 => rfl
          case hx70027 => (intro wz hSw; (try dsimp only at hSw); have y8 := (hSw.cell (p := ⟨w.heap.size, 8, none⟩) HLT.out.1 HLT.out.2.1).trans X8; have y100 := (hSw.cell (p := ⟨b, _, none⟩) HBL.out.1 HBL.out.2).trans e0; have y101 := (hSw.cell (p := ⟨b, _, none⟩) HBL.out.1 HBL.out.2).trans e1; have y102 := (hSw.cell (p := ⟨b, _, none⟩) HBL.out.1 HBL.out.2).trans e2; have y103 := (hSw.cell (p := ⟨b, _, none⟩) HBL.out.1 HBL.out.2).trans e3; have y104 := (hSw.cell (p := ⟨b, _, none⟩) HBL.out.1 HBL.out.2).trans e4; have y105 := (hSw.cell (p := ⟨b, _, none⟩) HBL.out.1 HBL.out.2).trans e5; have y106 := (hSw.cell (p := ⟨b, _, none⟩) HBL.out.1 HBL.out.2).trans e6; have y107 := (hSw.cell (p := ⟨b, _, none⟩) HBL.out.1 HBL.out.2).trans e7; have y108 := (hSw.cell (p := ⟨b, _, none⟩) HBL.out.1 HBL.out.2).trans e8; have y109 := (hSw.cell (p := ⟨b, _, none⟩) HBL.out.1 HBL.out.2).trans e9; have y110 := (hSw.cell (p := ⟨b, _, none⟩) HBL.out.1 HBL.out.2).trans e10; have y111 := (hSw.cell (p := ⟨b, _, none⟩) HBL.out.1 HBL.out.2).trans e11; go_simp; (try with_reducible rfl))
        (try simp only [Act.put, List.setIfInBounds_toArray, List.set_cons_zero, List.set_cons_succ])
        refine' tk_two 1 7 ?hi70042 ?hj70042 (by kernel_rfl) ?ha70042 ?hb70042
        case hi70042 => (simp only [List.getElem?_toArray, List.getElem?_cons_succ, List.getElem?_cons_zero]; rfl)
        case hj70042 => (simp only [List.getElem?_toArray, List.getElem?_cons_succ, List.getElem?_cons_zero]; rfl)
        case ha70042 =>
          intro K hK
          go_simp
          clear hHeld
          refine hK.out _ _ (by (try dsimp only); exact HRL.out.then HWD.out) (fun hHeld => ?_)
          clear hK K
          (try simp only [Act.put, List.setIfInBounds_toArray, List.set_cons_zero, List.set_cons_succ])
          refine' tk_call 7 ?hi70028 (by kernel_rfl) ?hr70028
          case hi70028 => (simp only [List.getElem?_toArray, List.getElem?_cons_succ, List.getElem?_cons_zero]; rfl)
          intro K hK
          go_simp
          go_at_call 9
          refine (IH.out d _ wd (fun x => (fun x => (N x ∨ x = w.heap.size + 1) ∨ x = w.heap.size + 1 + 1) x ∨ (Value.slice ra i rc).ownBlock = some x) HSD.out.1 HSD.out.2 (fun x hx => hx.elim (fun h => Nat.lt_of_lt_of_le (HNB1.out x h) (by have h1 := HRL.out.size; have h2 := HWD.out.size; omega)) fun h => Nat.lt_of_lt_of_le (HOW.out x h).2 HWD.out.size) HV.out.cv).mono ?_
          rintro e w2 ⟨⟨u, rfl, hu⟩, hb⟩
          obtain ⟨q1, k1, q2, k2, rfl, _, _⟩ := hu.form
          have HU := Lib.hid hu
          have HB2 := Lib.hid hb
          have hbt : But (w.heap.size + 1 + 1) W w2 := (HRL.out.then HWD.out).then hb
          have HBT := Lib.hid hbt
          have oc2 : w2.cell? ⟨(w.heap.size + 1 + 1), 8, none⟩ = some (.slice ra i rc) := (hb.cell (p := ⟨_, 8, none⟩) (Nat.lt_of_lt_of_le HB.out.lt HWD.out.size)).trans ocd
          clear hu hb hbt
          go_wp2_with fail
          clear hHeld
          refine hK.out _ _ (by (try dsimp only); exact HBT.out) (fun hHeld => ?_)
          clear hK K
          (try simp only [Act.put, List.setIfInBounds_toArray, List.set_cons_zero, List.set_cons_succ])
          refine' tk_call 8 ?hi70029 (by kernel_rfl) ?hr70029
          case hi70029 => (simp only [List.getElem?_toArray, List.getElem?_cons_succ, List.getElem?_cons_zero]; rfl)
          intro K hK
          go_simp
          obtain ⟨wA, hwA⟩ : ∃ wA : World, wA = w2.alloc (.cells #[.int .i64 d.h.f0, .int .i64 d.h.f1, .int .i64 d.h.f2, .int .i64 d.h.f3, .int .i64 d.h.f4, .int .i64 d.h.f5, .int .i64 d.h.pair, .int .i64 d.h.pl, .slice q1 d.pairs.length k1, .int .i64 d.h.fn, .int .i64 d.h.fl, .slice q2 d.funs.length k2] 30) := ⟨_, rfl⟩
          rw [← hwA]
          have hAB : Below w2.heap.size w2 wA := by rw [hwA]; exact (Below.refl _ _).alloc (Nat.le_refl _) _
          have HNB := Lib.hid (show wA.heap[w2.heap.size]? = some (.cells #[.int .i64 d.h.f0, .int .i64 d.h.f1, .int .i64 d.h.f2, .int .i64 d.h.f3, .int .i64 d.h.f4, .int .i64 d.h.f5, .int .i64 d.h.pair, .int .i64 d.h.pl, .slice q1 d.pairs.length k1, .int .i64 d.h.fn, .int .i64 d.h.fl, .slice q2 d.funs.length k2] 30 (0, 0)) by rw [hwA]; exact heap_alloc_new _ _)
          have ocA : wA.cell? ⟨(w.heap.size + 1 + 1), 8, none⟩ = some (.slice ra i rc) := (hAB.cell (p := ⟨_, 8, none⟩) (Nat.lt_of_lt_of_le HB.out.lt (Nat.le_trans HWD.out.size HB2.out.size))).trans oc2
          have hrow2 := (HROW.out.below HWD.out).below HB2.out
          obtain ⟨rs, hown, hraw⟩ := hrow2
          rw [HLE.out] at hown
          have HOA := Lib.hid (show wA.ownsRow W.heap.size 30 12 (.slice ra i rc) i (cosCells rs) by rw [hwA]; exact hown.alloc _)
          have HRAW := Lib.hid hraw
          have HWA := Lib.hid hwA
          have HW1 := Lib.hid (show W.heap.size ≤ wA.heap.size from Nat.le_trans HBT.out.size hAB.size)
          have HAB := Lib.hid hAB
          clear hAB hwA hown hraw
          clear hHeld
          refine hK.out _ _ (by (try dsimp only); exact HBT.out.then HAB.out) (fun hHeld => ?_)
          clear hK K
          (try simp only [Act.put, List.setIfInBounds_toArray, List.set_cons_zero, List.set_cons_succ])
          refine' tk_call 9 ?hi70030 (by kernel_rfl) ?hr70030
          case hi70030 => (simp only [List.getElem?_toArray, List.getElem?_cons_succ, List.getElem?_cons_zero]; rfl)
          intro K hK
          refine step_append_lies _ (by rfl) _ _ _ (by rfl) W.heap.size 30 i0 _ 12 128 Tryd.underlying28 hi hz0 hz1 hz2 rfl (by omega) (.slice ra i rc) i (cosCells rs) (by rfl) HOA.out ⟨w2.heap.size, 0, none⟩ 1 1 [.int .i64 d.h.f0, .int .i64 d.h.f1, .int .i64 d.h.f2, .int .i64 d.h.f3, .int .i64 d.h.f4, .int .i64 d.h.f5, .int .i64 d.h.pair, .int .i64 d.h.pl, .slice q1 d.pairs.length k1, .int .i64 d.h.fn, .int .i64 d.h.fl, .slice q2 d.funs.length k2] (by rfl) (by rfl) (World.news_of_block (cs := #[.int .i64 d.h.f0, .int .i64 d.h.f1, .int .i64 d.h.f2, .int .i64 d.h.f3, .int .i64 d.h.f4, .int .i64 d.h.f5, .int .i64 d.h.pair, .int .i64 d.h.pl, .slice q1 d.pairs.length k1, .int .i64 d.h.fn, .int .i64 d.h.fl, .slice q2 d.funs.length k2]) (t := 30) (fr := (0, 0)) HNB.out) (by simp [Value.oneCell']) (by omega) (by unfold maxLen; omega) (by omega) HW1.out wA.heap.size rfl ?_
          intro gg cap w9 hown9 hgrow9 hat9 hlt9
          have hb9 : But (w.heap.size + 1 + 1) W w9 := (HBT.out.then HAB.out).grown hgrow9 (fun x hx => (HOW.out x hx).1)
          have hbx9 : CBox w9 (w.heap.size + 1 + 1) 30 ⟨c.h, (.slice ra i rc), .slice none 0 0⟩ := (hgrow9.block _ (Nat.lt_of_lt_of_le HB.out.lt (Nat.le_trans HWD.out.size (Nat.le_trans HB2.out.size HAB.out.size))) (fun e => by have h1 := (HOW.out _ e.symm).1; have h2 := HLT.out.2.2; omega)).trans (((HB.out.keep HWD.out).keep HB2.out).keep HAB.out)
          have hrow9 : RowC 30 (fun x => (N x ∨ x = w.heap.size + 1) ∨ x = w.heap.size + 1 + 1) W.heap.size w9 (.slice (some ⟨gg, 0, none⟩) (i + 1) cap) (c.pairs.take (i + 1)) := by
            have h2 : RawCo w2 (fun b => Lc (fun x => (N x ∨ x = w.heap.size + 1) ∨ x = w.heap.size + 1 + 1) w2 b ∧ (Value.slice ra i rc).ownBlock ≠ some b) ⟨d.h, .slice q1 d.pairs.length k1, .slice q2 d.funs.length k2⟩ d := HU.out.raw.mono (fun b h => ⟨⟨h.1, fun e => h.2 (.inl e)⟩, fun e => h.2 (.inr e)⟩) fun _ _ _ => rfl
            have h1 := HRAW.out
            have hg9 := hgrow9
            rw [HWA.out] at hg9
            have hl9 : (Value.slice ra i rc).ownBlock = some gg ∨ gg = w2.heap.size + 1 := hat9.imp id fun h => by rw [h, HWA.out]; simp
            have hlen := HLE.out
            have h3 := rowc_push (l := c.pairs.take i) (cap := cap) h1 h2 hg9 hl9 (by rw [hlen]; exact hown9)
            rw [hlen] at h3
            rw [HTK.out]; exact h3
          have hc9 : w9.cell? ⟨(w.heap.size + 1 + 1), 8, none⟩ = some (.slice ra i rc) := hbx9.c8
          have hf9 : w9.frozen? ⟨(w.heap.size + 1 + 1), 8, none⟩ = false := hbx9.fr 8
          have HB9 := Lib.hid hb9
          have HBX9 := Lib.hid hbx9
          have HROW9 := Lib.hid hrow9
          clear hb9 hbx9 hrow9 hown9 hgrow9 hat9 hlt9
          clear hHeld
          refine hK.out _ _ (by (try dsimp only); exact HB9.out) (fun hHeld => ?_)
          clear hK K
          (try simp only [Act.put, List.setIfInBounds_toArray, List.set_cons_zero, List.set_cons_succ])
          refine' tk_any 10 34 (v := _) ?hi70031 ?hd70031 (by kernel_rfl) (by kernel_rfl) (by kernel_rfl) (fun _ _ _ h => h) ?hy70031 hHeld ?hr70031
          case hi70031 => (simp only [List.getElem?_toArray, List.getElem?_cons_succ, List.getElem?_cons_zero]; rfl)
          case hd70031 => rfl
          case hy70031 =>
            refine' Or.inl ⟨?hw70031, ?hx70031⟩
            case hw70031 => rfl
            case hx70031 => (intro w hSw; (try dsimp only at hSw); go_simp; (try with_reducible rfl))
          (try simp only [Act.put, List.setIfInBounds_toArray, List.set_cons_zero, List.set_cons_succ])
          refine' tk_call 11 ?hi70032 (by kernel_rfl) ?hr70032
          case hi70032 => (simp only [List.getElem?_toArray, List.getElem?_cons_succ, List.getElem?_cons_zero]; rfl)
          intro K hK
          go_simp
          clear hHeld
          refine hK.out _ _ (by (try dsimp only); exact HB9.out.set _ _) (fun hHeld => ?_)
          clear hK K
          (try simp only [Act.put, List.setIfInBounds_toArray, List.set_cons_zero, List.set_cons_succ])
          refine wpAnyH_done (by kernel_rfl) ?_ _
          refine NoPanic.normal ?_
          go_wp2
          refine ⟨⟨i + 1, some ⟨gg, 0, none⟩, cap, HLT2.out, by go_num, Lib.hid HBX9.out.s8, Lib.hid (HROW9.out.store (.inr rfl) HLT.out.2.2), Lib.hid (HB9.out.set _ _)⟩, by have := HLT2.out; simp [intOf]; omega⟩
        case hb70042 =>
          intro K hK
          go_simp
          go_at_call 9
          refine (IH.out d _ wd (fun x => (fun x => (N x ∨ x = w.heap.size + 1) ∨ x = w.heap.size + 1 + 1) x ∨ (Value.slice ra i rc).ownBlock = some x) HSD.out.1 HSD.out.2 (fun x hx => hx.elim (fun h => Nat.lt_of_lt_of_le (HNB1.out x h) (by have h1 := HRL.out.size; have h2 := HWD.out.size; omega)) fun h => Nat.lt_of_lt_of_le (HOW.out x h).2 HWD.out.size) HV.out.cv).mono ?_
          rintro e w2 ⟨⟨u, rfl, hu⟩, hb⟩
          obtain ⟨q1, k1, q2, k2, rfl, _, _⟩ := hu.form
          have HU := Lib.hid hu
          have HB2 := Lib.hid hb
          have hbt : But (w.heap.size + 1 + 1) W w2 := (HRL.out.then HWD.out).then hb
          have HBT := Lib.hid hbt
          have oc2 : w2.cell? ⟨(w.heap.size + 1 + 1), 8, none⟩ = some (.slice ra i rc) := (hb.cell (p := ⟨_, 8, none⟩) (Nat.lt_of_lt_of_le HB.out.lt HWD.out.size)).trans ocd
          clear hu hb hbt
          go_wp2_with fail
          clear hHeld
          refine hK.out _ _ (by (try dsimp only); exact HBT.out) (fun hHeld => ?_)
          clear hK K
          (try simp only [Act.put, List.setIfInBounds_toArray, List.set_cons_zero, List.set_cons_succ])
          refine' tk_two 1 8 ?hi70041 ?hj70041 (by kernel_rfl) ?ha70041 ?hb70041
          case hi70041 => (simp only [List.getElem?_toArray, List.getElem?_cons_succ, List.getElem?_cons_zero]; rfl)
          case hj70041 => (simp only [List.getElem?_toArray, List.getElem?_cons_succ, List.getElem?_cons_zero]; rfl)
          case ha70041 =>
            intro K hK
            go_simp
            clear hHeld
            refine hK.out _ _ (by (try dsimp only); exact HBT.out) (fun hHeld => ?_)
            clear hK K
            (try simp only [Act.put, List.setIfInBounds_toArray, List.set_cons_zero, List.set_cons_succ])
            refine' tk_call 8 ?hi70033 (by kernel_rfl) ?hr70033
            case hi70033 => (simp only [List.getElem?_toArray, List.getElem?_cons_succ, List.getElem?_cons_zero]; rfl)
            intro K hK
            go_simp
            obtain ⟨wA, hwA⟩ : ∃ wA : World, wA = w2.alloc (.cells #[.int .i64 d.h.f0, .int .i64 d.h.f1, .int .i64 d.h.f2, .int .i64 d.h.f3, .int .i64 d.h.f4, .int .i64 d.h.f5, .int .i64 d.h.pair, .int .i64 d.h.pl, .slice q1 d.pairs.length k1, .int .i64 d.h.fn, .int .i64 d.h.fl, .slice q2 d.funs.length k2] 30) := ⟨_, rfl⟩
            rw [← hwA]
            have hAB : Below w2.heap.size w2 wA := by rw [hwA]; exact (Below.refl _ _).alloc (Nat.le_refl _) _
            have HNB := Lib.hid (show wA.heap[w2.heap.size]? = some (.cells #[.int .i64 d.h.f0, .int .i64 d.h.f1, .int .i64 d.h.f2, .int .i64 d.h.f3, .int .i64 d.h.f4, .int .i64 d.h.f5, .int .i64 d.h.pair, .int .i64 d.h.pl, .slice q1 d.pairs.length k1, .int .i64 d.h.fn, .int .i64 d.h.fl, .slice q2 d.funs.length k2] 30 (0, 0)) by rw [hwA]; exact heap_alloc_new _ _)
            have ocA : wA.cell? ⟨(w.heap.size + 1 + 1), 8, none⟩ = some (.slice ra i rc) := (hAB.cell (p := ⟨_, 8, none⟩) (Nat.lt_of_lt_of_le HB.out.lt (Nat.le_trans HWD.out.size HB2.out.size))).trans oc2
            have hrow2 := (HROW.out.below HWD.out).below HB2.out
            obtain ⟨rs, hown, hraw⟩ := hrow2
            rw [HLE.out] at hown
            have HOA := Lib.hid (show wA.ownsRow W.heap.size 30 12 (.slice ra i rc) i (cosCells rs) by rw [hwA]; exact hown.alloc _)
            have HRAW := Lib.hid hraw
            have HWA := Lib.hid hwA
            have HW1 := Lib.hid (show W.heap.size ≤ wA.heap.size from Nat.le_trans HBT.out.size hAB.size)
            have HAB := Lib.hid hAB
            clear hAB hwA hown hraw
            clear hHeld
            refine hK.out _ _ (by (try dsimp only); exact HBT.out.then HAB.out) (fun hHeld => ?_)
            clear hK K
            (try simp only [Act.put, List.setIfInBounds_toArray, List.set_cons_zero, List.set_cons_succ])
            refine' tk_call 9 ?hi70034 (by kernel_rfl) ?hr70034
            case hi70034 => (simp only [List.getElem?_toArray, List.getElem?_cons_succ, List.getElem?_cons_zero]; rfl)
            intro K hK
            refine step_append_lies _ (by rfl) _ _ _ (by rfl) W.heap.size 30 i0 _ 12 128 Tryd.underlying28 hi hz0 hz1 hz2 rfl (by omega) (.slice ra i rc) i (cosCells rs) (by rfl) HOA.out ⟨w2.heap.size, 0, none⟩ 1 1 [.int .i64 d.h.f0, .int .i64 d.h.f1, .int .i64 d.h.f2, .int .i64 d.h.f3, .int .i64 d.h.f4, .int .i64 d.h.f5, .int .i64 d.h.pair, .int .i64 d.h.pl, .slice q1 d.pairs.length k1, .int .i64 d.h.fn, .int .i64 d.h.fl, .slice q2 d.funs.length k2] (by rfl) (by rfl) (World.news_of_block (cs := #[.int .i64 d.h.f0, .int .i64 d.h.f1, .int .i64 d.h.f2, .int .i64 d.h.f3, .int .i64 d.h.f4, .int .i64 d.h.f5, .int .i64 d.h.pair, .int .i64 d.h.pl, .slice q1 d.pairs.length k1, .int .i64 d.h.fn, .int .i64 d.h.fl, .slice q2 d.funs.length k2]) (t := 30) (fr := (0, 0)) HNB.out) (by simp [Value.oneCell']) (by omega) (by unfold maxLen; omega) (by omega) HW1.out wA.heap.size rfl ?_
            intro gg cap w9 hown9 hgrow9 hat9 hlt9
            have hb9 : But (w.heap.size + 1 + 1) W w9 := (HBT.out.then HAB.out).grown hgrow9 (fun x hx => (HOW.out x hx).1)
            have hbx9 : CBox w9 (w.heap.size + 1 + 1) 30 ⟨c.h, (.slice ra i rc), .slice none 0 0⟩ := (hgrow9.block _ (Nat.lt_of_lt_of_le HB.out.lt (Nat.le_trans HWD.out.size (Nat.le_trans HB2.out.size HAB.out.size))) (fun e => by have h1 := (HOW.out _ e.symm).1; have h2 := HLT.out.2.2; omega)).trans (((HB.out.keep HWD.out).keep HB2.out).keep HAB.out)
            have hrow9 : RowC 30 (fun x => (N x ∨ x = w.heap.size + 1) ∨ x = w.heap.size + 1 + 1) W.heap.size w9 (.slice (some ⟨gg, 0, none⟩) (i + 1) cap) (c.pairs.take (i + 1)) := by
              have h2 : RawCo w2 (fun b => Lc (fun x => (N x ∨ x = w.heap.size + 1) ∨ x = w.heap.size + 1 + 1) w2 b ∧ (Value.slice ra i rc).ownBlock ≠ some b) ⟨d.h, .slice q1 d.pairs.length k1, .slice q2 d.funs.length k2⟩ d := HU.out.raw.mono (fun b h => ⟨⟨h.1, fun e => h.2 (.inl e)⟩, fun e => h.2 (.inr e)⟩) fun _ _ _ => rfl
              have h1 := HRAW.out
              have hg9 := hgrow9
              rw [HWA.out] at hg9
              have hl9 : (Value.slice ra i rc).ownBlock = some gg ∨ gg = w2.heap.size + 1 := hat9.imp id fun h => by rw [h, HWA.out]; simp
              have hlen := HLE.out
              have h3 := rowc_push (l := c.pairs.take i) (cap := cap) h1 h2 hg9 hl9 (by rw [hlen]; exact hown9)
              rw [hlen] at h3
              rw [HTK.out]; exact h3
            have hc9 : w9.cell? ⟨(w.heap.size + 1 + 1), 8, none⟩ = some (.slice ra i rc) := hbx9.c8
            have hf9 : w9.frozen? ⟨(w.heap.size + 1 + 1), 8, none⟩ = false := hbx9.fr 8
            have HB9 := Lib.hid hb9
            have HBX9 := Lib.hid hbx9
            have HROW9 := Lib.hid hrow9
            clear hb9 hbx9 hrow9 hown9 hgrow9 hat9 hlt9
            clear hHeld
            refine hK.out _ _ (by (try dsimp only); exact HB9.out) (fun hHeld => ?_)
            clear hK K
            (try simp only [Act.put, List.setIfInBounds_toArray, List.set_cons_zero, List.set_cons_succ])
            refine' tk_any 10 34 (v := _) ?hi70035 ?hd70035 (by kernel_rfl) (by kernel_rfl) (by kernel_rfl) (fun _ _ _ h => h) ?hy70035 hHeld ?hr70035
            case hi70035 => (simp only [List.getElem?_toArray, List.getElem?_cons_succ, List.getElem?_cons_zero]; rfl)
            case hd70035 => rfl
            case hy70035 =>
              refine' Or.inl ⟨?hw70035, ?hx70035⟩
              case hw70035 => rfl
              case hx70035 => (intro w hSw; (try dsimp only at hSw); go_simp; (try with_reducible rfl))
            (try simp only [Act.put, List.setIfInBounds_toArray, List.set_cons_zero, List.set_cons_succ])
            refine' tk_call 11 ?hi70036 (by kernel_rfl) ?hr70036
            case hi70036 => (simp only [List.getElem?_toArray, List.getElem?_cons_succ, List.getElem?_cons_zero]; rfl)
            intro K hK
            go_simp
            clear hHeld
            refine hK.out _ _ (by (try dsimp only); exact HB9.out.set _ _) (fun hHeld => ?_)
            clear hK K
            (try simp only [Act.put, List.setIfInBounds_toArray, List.set_cons_zero, List.set_cons_succ])
            refine wpAnyH_done (by kernel_rfl) ?_ _
            refine NoPanic.normal ?_
            go_wp2
            refine ⟨⟨i + 1, some ⟨gg, 0, none⟩, cap, HLT2.out, by go_num, Lib.hid HBX9.out.s8, Lib.hid (HROW9.out.store (.inr rfl) HLT.out.2.2), Lib.hid (HB9.out.set _ _)⟩, by have := HLT2.out; simp [intOf]; omega⟩
          case hb70041 =>
            intro K hK
            go_simp
            obtain ⟨wA, hwA⟩ : ∃ wA : World, wA = w2.alloc (.cells #[.int .i64 d.h.f0, .int .i64 d.h.f1, .int .i64 d.h.f2, .int .i64 d.h.f3, .int .i64 d.h.f4, .int .i64 d.h.f5, .int .i64 d.h.pair, .int .i64 d.h.pl, .slice q1 d.pairs.length k1, .int .i64 d.h.fn, .int .i64 d.h.fl, .slice q2 d.funs.length k2] 30) := ⟨_, rfl⟩
            rw [← hwA]
            have hAB : Below w2.heap.size w2 wA := by rw [hwA]; exact (Below.refl _ _).alloc (Nat.le_refl _) _
            have HNB := Lib.hid (show wA.heap[w2.heap.size]? = some (.cells #[.int .i64 d.h.f0, .int .i64 d.h.f1, .int .i64 d.h.f2, .int .i64 d.h.f3, .int .i64 d.h.f4, .int .i64 d.h.f5, .int .i64 d.h.pair, .int .i64 d.h.pl, .slice q1 d.pairs.length k1, .int .i64 d.h.fn, .int .i64 d.h.fl, .slice q2 d.funs.length k2] 30 (0, 0)) by rw [hwA]; exact heap_alloc_new _ _)
            have ocA : wA.cell? ⟨(w.heap.size + 1 + 1), 8, none⟩ = some (.slice ra i rc) := (hAB.cell (p := ⟨_, 8, none⟩) (Nat.lt_of_lt_of_le HB.out.lt (Nat.le_trans HWD.out.size HB2.out.size))).trans oc2
            have hrow2 := (HROW.out.below HWD.out).below HB2.out
            obtain ⟨rs, hown, hraw⟩ := hrow2
            rw [HLE.out] at hown
            have HOA := Lib.hid (show wA.ownsRow W.heap.size 30 12 (.slice ra i rc) i (cosCells rs) by rw [hwA]; exact hown.alloc _)
            have HRAW := Lib.hid hraw
            have HWA := Lib.hid hwA
            have HW1 := Lib.hid (show W.heap.size ≤ wA.heap.size from Nat.le_trans HBT.out.size hAB.size)
            have HAB := Lib.hid hAB
            clear hAB hwA hown hraw
            clear hHeld
            refine hK.out _ _ (by (try dsimp only); exact HBT.out.then HAB.out) (fun hHeld => ?_)
            clear hK K
            (try simp only [Act.put, List.setIfInBounds_toArray, List.set_cons_zero, List.set_cons_succ])
            refine' tk_call 1 ?hi70037 (by kernel_rfl) ?hr70037
            case hi70037 => (simp only [List.getElem?_toArray, List.getElem?_cons_succ, List.getElem?_cons_zero]; rfl)
            intro K hK
            go_simp
            clear hHeld
            refine hK.out _ _ (by (try dsimp only); exact HBT.out.then HAB.out) (fun hHeld => ?_)
            clear hK K
            (try simp only [Act.put, List.setIfInBounds_toArray, List.set_cons_zero, List.set_cons_succ])
            refine' tk_call 9 ?hi70038 (by kernel_rfl) ?hr70038
            case hi70038 => (simp only [List.getElem?_toArray, List.getElem?_cons_succ, List.getElem?_cons_zero]; rfl)
            intro K hK
            refine step_append_lies _ (by rfl) _ _ _ (by rfl) W.heap.size 30 i0 _ 12 128 Tryd.underlying28 hi hz0 hz1 hz2 rfl (by omega) (.slice ra i rc) i (cosCells rs) (by rfl) HOA.out ⟨w2.heap.size, 0, none⟩ 1 1 [.int .i64 d.h.f0, .int .i64 d.h.f1, .int .i64 d.h.f2, .int .i64 d.h.f3, .int .i64 d.h.f4, .int .i64 d.h.f5, .int .i64 d.h.pair, .int .i64 d.h.pl, .slice q1 d.pairs.length k1, .int .i64 d.h.fn, .int .i64 d.h.fl, .slice q2 d.funs.length k2] (by rfl) (by rfl) (World.news_of_block (cs := #[.int .i64 d.h.f0, .int .i64 d.h.f1, .int .i64 d.h.f2, .int .i64 d.h.f3, .int .i64 d.h.f4, .int .i64 d.h.f5, .int .i64 d.h.pair, .int .i64 d.h.pl, .slice q1 d.pairs.length k1, .int .i64 d.h.fn, .int .i64 d.h.fl, .slice q2 d.funs.length k2]) (t := 30) (fr := (0, 0)) HNB.out) (by simp [Value.oneCell']) (by omega) (by unfold maxLen; omega) (by omega) HW1.out wA.heap.size rfl ?_
            intro gg cap w9 hown9 hgrow9 hat9 hlt9
            have hb9 : But (w.heap.size + 1 + 1) W w9 := (HBT.out.then HAB.out).grown hgrow9 (fun x hx => (HOW.out x hx).1)
            have hbx9 : CBox w9 (w.heap.size + 1 + 1) 30 ⟨c.h, (.slice ra i rc), .slice none 0 0⟩ := (hgrow9.block _ (Nat.lt_of_lt_of_le HB.out.lt (Nat.le_trans HWD.out.size (Nat.le_trans HB2.out.size HAB.out.size))) (fun e => by have h1 := (HOW.out _ e.symm).1; have h2 := HLT.out.2.2; omega)).trans (((HB.out.keep HWD.out).keep HB2.out).keep HAB.out)
            have hrow9 : RowC 30 (fun x => (N x ∨ x = w.heap.size + 1) ∨ x = w.heap.size + 1 + 1) W.heap.size w9 (.slice (some ⟨gg, 0, none⟩) (i + 1) cap) (c.pairs.take (i + 1)) := by
              have h2 : RawCo w2 (fun b => Lc (fun x => (N x ∨ x = w.heap.size + 1) ∨ x = w.heap.size + 1 + 1) w2 b ∧ (Value.slice ra i rc).ownBlock ≠ some b) ⟨d.h, .slice q1 d.pairs.length k1, .slice q2 d.funs.length k2⟩ d := HU.out.raw.mono (fun b h => ⟨⟨h.1, fun e => h.2 (.inl e)⟩, fun e => h.2 (.inr e)⟩) fun _ _ _ => rfl
              have h1 := HRAW.out
              have hg9 := hgrow9
              rw [HWA.out] at hg9
              have hl9 : (Value.slice ra i rc).ownBlock = some gg ∨ gg = w2.heap.size + 1 := hat9.imp id fun h => by rw [h, HWA.out]; simp
              have hlen := HLE.out
              have h3 := rowc_push (l := c.pairs.take i) (cap := cap) h1 h2 hg9 hl9 (by rw [hlen]; exact hown9)
              rw [hlen] at h3
              rw [HTK.out]; exact h3
            have hc9 : w9.cell? ⟨(w.heap.size + 1 + 1), 8, none⟩ = some (.slice ra i rc) := hbx9.c8
            have hf9 : w9.frozen? ⟨(w.heap.size + 1 + 1), 8, none⟩ = false := hbx9.fr 8
            have HB9 := Lib.hid hb9
            have HBX9 := Lib.hid hbx9
            have HROW9 := Lib.hid hrow9
            clear hb9 hbx9 hrow9 hown9 hgrow9 hat9 hlt9
            clear hHeld
            refine hK.out _ _ (by (try dsimp only); exact HB9.out) (fun hHeld => ?_)
            clear hK K
            (try simp only [Act.put, List.setIfInBounds_toArray, List.set_cons_zero, List.set_cons_succ])
            refine' tk_any 10 34 (v := _) ?hi70039 ?hd70039 (by kernel_rfl) (by kernel_rfl) (by kernel_rfl) (fun _ _ _ h => h) ?hy70039 hHeld ?hr70039
            case hi70039 => (simp only [List.getElem?_toArray, List.getElem?_cons_succ, List.getElem?_cons_zero]; rfl)
            case hd70039 => rfl
            case hy70039 =>
              refine' Or.inl ⟨?hw70039, ?hx70039⟩
              case hw70039 => rfl
              case hx70039 => (intro w hSw; (try dsimp only at hSw); go_simp; (try with_reducible rfl))
            (try simp only [Act.put, List.setIfInBounds_toArray, List.set_cons_zero, List.set_cons_succ])
            refine' tk_call 11 ?hi70040 (by kernel_rfl) ?hr70040
            case hi70040 => (simp only [List.getElem?_toArray, List.getElem?_cons_succ, List.getElem?_cons_zero]; rfl)
            intro K hK
            go_simp
            clear hHeld
            refine hK.out _ _ (by (try dsimp only); exact HB9.out.set _ _) (fun hHeld => ?_)
            clear hK K
            (try simp only [Act.put, List.setIfInBounds_toArray, List.set_cons_zero, List.set_cons_succ])
            refine wpAnyH_done (by kernel_rfl) ?_ _
            refine NoPanic.normal ?_
            go_wp2
            refine ⟨⟨i + 1, some ⟨gg, 0, none⟩, cap, HLT2.out, by go_num, Lib.hid HBX9.out.s8, Lib.hid (HROW9.out.store (.inr rfl) HLT.out.2.2), Lib.hid (HB9.out.set _ _)⟩, by have := HLT2.out; simp [intOf]; omega⟩
      · have hin : i = np := by omega
        have htk : c.pairs.take i = c.pairs := by rw [hin, HPN.out, List.take_length]
        have hrow := HROW.out.done (fun b h => HNB1.out b h) (by rw [htk]; have := HT.out.1; unfold maxLen; omega)
        rw [htk] at hrow
        obtain ⟨W1, rfl⟩ : ∃ x, x = wr := ⟨_, rfl⟩
        obtain ⟨ra1, rfl⟩ : ∃ x, x = ra := ⟨_, rfl⟩
        obtain ⟨rc1, rfl⟩ : ∃ x, x = rc := ⟨_, rfl⟩
        rw [hin] at hrow HB
        have HROW1 := Lib.hid hrow
        replace HX := Lib.hid (HX.out.but HRL.out (by omega))
        replace HR := Lib.hid (HR.out.but HRL.out (by omega))
        replace HF := Lib.hid (CoSN.but HF.out HRL.out rfl)
        have HRW := Lib.hid HRL.out.size
        have HO := HB
        replace HLT := Lib.hid (show w.heap.size < W1.heap.size ∧ w.heap.size ≠ (w.heap.size + 1 + 1) ∧ (w.heap.size + 1 + 1) < W1.heap.size by have h1 := HLT.out; have h2 := HRL.out.size; exact ⟨by omega, by omega, by omega⟩)
        replace HNB1 := Lib.hid (fun b h => Nat.lt_of_lt_of_le (HNB1.out b h) HRL.out.size)
        replace HL := Lib.hid (HL.out.trans (HRL.out.below (B := w.heap.size) (by omega) (by have := HL.out.size; omega)))
        clear hrow htk hin HROW HRL HB
        have X8 := HX.out.c8
        have X11 := HX.out.c11
        go_wp2
        go_loopw [5] (fun iv wr => ToR (fun x => (N x ∨ x = w.heap.size + 1) ∨ x = w.heap.size + 1 + 1) nf (w.heap.size + 1 + 1) 30 (fun a i cp => ⟨c.h, .slice ra1 np rc1, (.slice a i cp)⟩) W1 c.funs iv wr) (fun iv _ => nf - (intOf iv).toNat)
        case atStart => exact ⟨0, none, 0, Nat.zero_le _, rfl, HO, Lib.hid RowC.nil, Lib.hid (But.refl _ _)⟩
        case round =>
          clear X8 X11
          obtain ⟨i, ra, rc, hi1, rfl, HB, HROW, HRL⟩ := hrel
          have hX8 := (HX.out.but HRL.out (by omega)).c11
          have px : wr.cell? ⟨w.heap.size, 11, none⟩ = some (.slice fa nf fc) := hX8
          clear hX8
          by_cases hlt : i < nf
          · have hi0 : (0 : Int) ≤ (i : Int) := Int.natCast_nonneg _
            have hi2 : (i : Int) < (nf : Int) := by omega
            have hil : i < c.funs.length := by rw [← HFN.out]; exact hlt
            have hi12 : i ≤ 12 := by have := HT.out.2; rw [← HFN.out] at this; omega
            obtain ⟨d, hd⟩ : ∃ d, c.funs.getD i co0 = d := ⟨_, rfl⟩
            obtain ⟨b, off, p1, c1, p2, c2, rfl, hb, ⟨e0, e1, e2, e3, e4, e5, e6, e7, e8, e9, e10, e11⟩, hv⟩ := CoSN.elem2 HF.out hil hd
            have X11 : W1.cell? ⟨w.heap.size, 11, none⟩ = some (.slice (some ⟨b, off, none⟩) nf fc) := HX.out.c11
            have hb2 : b ≠ (w.heap.size + 1 + 1) := fun e => hb.2 e
            have HBL := Lib.hid (show b < W1.heap.size ∧ b ≠ (w.heap.size + 1 + 1) from ⟨hb.1, hb2⟩)
            have HV := Lib.hid (hv.but HRL.out rfl)
            have HSD := Lib.hid (show szC d ≤ n ∧ Thin d from ⟨by have h := szC_fun c i hil; rw [hd] at h; have := HN0.out; omega, by rw [← hd]; exact HTH.out.fun (getC_mem hil)⟩)
            have htk : c.funs.take (i + 1) = c.funs.take i ++ [d] := by
              rw [List.take_succ_eq_append_getElem hil, ← hd]; simp [List.getD_eq_getElem?_getD, hil]
            have HTK := Lib.hid htk
            have HLE := Lib.hid (show (c.funs.take i).length = i by rw [List.length_take]; omega)
            have HLT2 := Lib.hid hlt
            have oc : wr.cell? ⟨(w.heap.size + 1 + 1), 11, none⟩ = some (.slice ra i rc) := HB.out.c11
            have HOW := Lib.hid HROW.out.lt
            clear hd hv hb hb2 htk hil hlt
            go_upto_region 9 with fail
            (try dsimp only [List.append])
            refine wp_region_noPanic ?_
            refine wp_region_held_drew (S := (fun w' => But (w.heap.size + 1 + 1) W1 w')) (by kernel_rfl) (by (try dsimp only); exact HRL.out.then ((Below.refl _ _).drew)) (fun hHeld => ?_)
            have HWD := Lib.hid (show Below wr.heap.size wr wr.drew from (Below.refl _ _).drew)
            have ocd : wr.drew.cell? ⟨(w.heap.size + 1 + 1), 11, none⟩ = some (.slice ra i rc) := oc
            replace HV := Lib.hid (HV.out.below HWD.out)
            generalize wr.drew = wd at hHeld HWD HV ocd ⊢
            refine' tk_any 0 42 (v := _) ?hi70001 ?hd70001 (by kernel_rfl) (by kernel_rfl) (by kernel_rfl) (fun _ _ _ h => h) ?hy70001 hHeld ?hr70001
            case hi70001 => (simp only [List.getElem?_toArray, List.getElem?_cons_zero]; rfl)
            case hd70001 => rfl
            case hy70001 =>
              refine' Or.inl ⟨?hw70001, ?hx70001⟩
              case hw70001 => rfl
              case hx70001 => (intro wz hSw; (try dsimp only at hSw); have y8 := (hSw.cell (p := ⟨w.heap.size, 11, none⟩) HLT.out.1 HLT.out.2.1).trans X11; have y100 := (hSw.cell (p := ⟨b, _, none⟩) HBL.out.1 HBL.out.2).trans e0; have y101 := (hSw.cell (p := ⟨b, _, none⟩) HBL.out.1 HBL.out.2).trans e1; have y102 := (hSw.cell (p := ⟨b, _, none⟩) HBL.out.1 HBL.out.2).trans e2; have y103 := (hSw.cell (p := ⟨b, _, none⟩) HBL.out.1 HBL.out.2).trans e3; have y104 := (hSw.cell (p := ⟨b, _, none⟩) HBL.out.1 HBL.out.2).trans e4; have y105 := (hSw.cell (p := ⟨b, _, none⟩) HBL.out.1 HBL.out.2).trans e5; have y106 := (hSw.cell (p := ⟨b, _, none⟩) HBL.out.1 HBL.out.2).trans e6; have y107 := (hSw.cell (p := ⟨b, _, none⟩) HBL.out.1 HBL.out.2).trans e7; have y108 := (hSw.cell (p := ⟨b, _, none⟩) HBL.out.1 HBL.out.2).trans e8; have y109 := (hSw.cell (p := ⟨b, _, none⟩) HBL.out.1 HBL.out.2).trans e9; have y110 := (hSw.cell (p := ⟨b, _, none⟩) HBL.out.1 HBL.out.2).trans e10; have y111 := (hSw.cell (p := ⟨b, _, none⟩) HBL.out.1 HBL.out.2).trans e11; go_simp; (try with_reducible rfl))
            (try simp only [Act.put, List.setIfInBounds_toArray, List.set_cons_zero, List.set_cons_succ])
            refine' tk_any 2 44 (v := _) ?hi70002 ?hd70002 (by kernel_rfl) (by kernel_rfl) (by kernel_rfl) (fun _ _ _ h => h) ?hy70002 hHeld ?hr70002
            case hi70002 => (simp only [List.getElem?_toArray, List.getElem?_cons_succ, List.getElem?_cons_zero]; rfl)
            case hd70002 => rfl
            case hy70002 =>
              refine' Or.inl ⟨?hw70002, ?hx70002⟩
              case hw70002 => rfl
              case hx70002 => (intro wz hSw; (try dsimp only at hSw); have y8 := (hSw.cell (p := ⟨w.heap.size, 11, none⟩) HLT.out.1 HLT.out.2.1).trans X11; have y100 := (hSw.cell (p := ⟨b, _, none⟩) HBL.out.1 HBL.out.2).trans e0; have y101 := (hSw.cell (p := ⟨b, _, none⟩) HBL.out.1 HBL.out.2).trans e1; have y102 := (hSw.cell (p := ⟨b, _, none⟩) HBL.out.1 HBL.out.2).trans e2; have y103 := (hSw.cell (p := ⟨b, _, none⟩) HBL.out.1 HBL.out.2).trans e3; have y104 := (hSw.cell (p := ⟨b, _, none⟩) HBL.out.1 HBL.out.2).trans e4; have y105 := (hSw.cell (p := ⟨b, _, none⟩) HBL.out.1 HBL.out.2).trans e5; have y106 := (hSw.cell (p := ⟨b, _, none⟩) HBL.out.1 HBL.out.2).trans e6; have y107 := (hSw.cell (p := ⟨b, _, none⟩) HBL.out.1 HBL.out.2).trans e7; have y108 := (hSw.cell (p := ⟨b, _, none⟩) HBL.out.1 HBL.out.2).trans e8; have y109 := (hSw.cell (p := ⟨b, _, none⟩) HBL.out.1 HBL.out.2).trans e9; have y110 := (hSw.cell (p := ⟨b, _, none⟩) HBL.out.1 HBL.out.2).trans e10; have y111 := (hSw.cell (p := ⟨b, _, none⟩) HBL.out.1 HBL.out.2).trans e11; go_simp; (try with_reducible rfl))
            (try simp only [Act.put, List.setIfInBounds_toArray, List.set_cons_zero, List.set_cons_succ])
            refine' tk_any 3 45 (v := _) ?hi70003 ?hd70003 (by kernel_rfl) (by kernel_rfl) (by kernel_rfl) (fun _ _ _ h => h) ?hy70003 hHeld ?hr70003
            case hi70003 => (simp only [List.getElem?_toArray, List.getElem?_cons_succ, List.getElem?_cons_zero]; rfl)
            case hd70003 => rfl
            case hy70003 =>
              refine' Or.inl ⟨?hw70003, ?hx70003⟩
              case hw70003 => rfl
              case hx70003 => (intro wz hSw; (try dsimp only at hSw); have y8 := (hSw.cell (p := ⟨w.heap.size, 11, none⟩) HLT.out.1 HLT.out.2.1).trans X11; have y100 := (hSw.cell (p := ⟨b, _, none⟩) HBL.out.1 HBL.out.2).trans e0; have y101 := (hSw.cell (p := ⟨b, _, none⟩) HBL.out.1 HBL.out.2).trans e1; have y102 := (hSw.cell (p := ⟨b, _, none⟩) HBL.out.1 HBL.out.2).trans e2; have y103 := (hSw.cell (p := ⟨b, _, none⟩) HBL.out.1 HBL.out.2).trans e3; have y104 := (hSw.cell (p := ⟨b, _, none⟩) HBL.out.1 HBL.out.2).trans e4; have y105 := (hSw.cell (p := ⟨b, _, none⟩) HBL.out.1 HBL.out.2).trans e5; have y106 := (hSw.cell (p := ⟨b, _, none⟩) HBL.out.1 HBL.out.2).trans e6; have y107 := (hSw.cell (p := ⟨b, _, none⟩) HBL.out.1 HBL.out.2).trans e7; have y108 := (hSw.cell (p := ⟨b, _, none⟩) HBL.out.1 HBL.out.2).trans e8; have y109 := (hSw.cell (p := ⟨b, _, none⟩) HBL.out.1 HBL.out.2).trans e9; have y110 := (hSw.cell (p := ⟨b, _, none⟩) HBL.out.1 HBL.out.2).trans e10; have y111 := (hSw.cell (p := ⟨b, _, none⟩) HBL.out.1 HBL.out.2).trans e11; go_simp; (try with_reducible rfl))
            (try simp only [Act.put, List.setIfInBounds_toArray, List.set_cons_zero, List.set_cons_succ])
            refine' tk_any 4 46 (v := _) ?hi70004 ?hd70004 (by kernel_rfl) (by kernel_rfl) (by kernel_rfl) (fun _ _ _ h => h) ?hy70004 hHeld ?hr70004
            case hi70004 => (simp only [List.getElem?_toArray, List.getElem?_cons_succ, List.getElem?_cons_zero]; rfl)
            case hd70004 => rfl
            case hy70004 =>
              refine' Or.inl ⟨?hw70004, ?hx70004⟩
              case hw70004 => rfl
              case hx70004 => (intro wz hSw; (try dsimp only at hSw); have y8 := (hSw.cell (p := ⟨w.heap.size, 11, none⟩) HLT.out.1 HLT.out.2.1).trans X11; have y100 := (hSw.cell (p := ⟨b, _, none⟩) HBL.out.1 HBL.out.2).trans e0; have y101 := (hSw.cell (p := ⟨b, _, none⟩) HBL.out.1 HBL.out.2).trans e1; have y102 := (hSw.cell (p := ⟨b, _, none⟩) HBL.out.1 HBL.out.2).trans e2; have y103 := (hSw.cell (p := ⟨b, _, none⟩) HBL.out.1 HBL.out.2).trans e3; have y104 := (hSw.cell (p := ⟨b, _, none⟩) HBL.out.1 HBL.out.2).trans e4; have y105 := (hSw.cell (p := ⟨b, _, none⟩) HBL.out.1 HBL.out.2).trans e5; have y106 := (hSw.cell (p := ⟨b, _, none⟩) HBL.out.1 HBL.out.2).trans e6; have y107 := (hSw.cell (p := ⟨b, _, none⟩) HBL.out.1 HBL.out.2).trans e7; have y108 := (hSw.cell (p := ⟨b, _, none⟩) HBL.out.1 HBL.out.2).trans e8; have y109 := (hSw.cell (p := ⟨b, _, none⟩) HBL.out.1 HBL.out.2).trans e9; have y110 := (hSw.cell (p := ⟨b, _, none⟩) HBL.out.1 HBL.out.2).trans e10; have y111 := (hSw.cell (p := ⟨b, _, none⟩) HBL.out.1 HBL.out.2).trans e11; go_simp; (try with_reducible rfl))
            (try simp only [Act.put, List.setIfInBounds_toArray, List.set_cons_zero, List.set_cons_succ])
            refine' tk_any 5 47 (v := _) ?hi70005 ?hd70005 (by kernel_rfl) (by kernel_rfl) (by kernel_rfl) (fun _ _ _ h => h) ?hy70005 hHeld ?hr70005
            case hi70005 => (simp only [List.getElem?_toArray, List.getElem?_cons_succ, List.getElem?_cons_zero]; rfl)
            case hd70005 => rfl
            case hy70005 =>
              refine' Or.inl ⟨?hw70005, ?hx70005⟩
              case hw70005 => rfl
              case hx70005 => (intro wz hSw; (try dsimp only at hSw); have y8 := (hSw.cell (p := ⟨w.heap.size, 11, none⟩) HLT.out.1 HLT.out.2.1).trans X11; have y100 := (hSw.cell (p := ⟨b, _, none⟩) HBL.out.1 HBL.out.2).trans e0; have y101 := (hSw.cell (p := ⟨b, _, none⟩) HBL.out.1 HBL.out.2).trans e1; have y102 := (hSw.cell (p := ⟨b, _, none⟩) HBL.out.1 HBL.out.2).trans e2; have y103 := (hSw.cell (p := ⟨b, _, none⟩) HBL.out.1 HBL.out.2).trans e3; have y104 := (hSw.cell (p := ⟨b, _, none⟩) HBL.out.1 HBL.out.2).trans e4; have y105 := (hSw.cell (p := ⟨b, _, none⟩) HBL.out.1 HBL.out.2).trans e5; have y106 := (hSw.cell (p := ⟨b, _, none⟩) HBL.out.1 HBL.out.2).trans e6; have y107 := (hSw.cell (p := ⟨b, _, none⟩) HBL.out.1 HBL.out.2).trans e7; have y108 := (hSw.cell (p := ⟨b, _, none⟩) HBL.out.1 HBL.out.2).trans e8; have y109 := (hSw.cell (p := ⟨b, _, none⟩) HBL.out.1 HBL.out.2).trans e9; have y110 := (hSw.cell (p := ⟨b, _, none⟩) HBL.out.1 HBL.out.2).trans e10; have y111 := (hSw.cell (p := ⟨b, _, none⟩) HBL.out.1 HBL.out.2).trans e11; go_simp; (try with_reducible rfl))
            (try simp only [Act.put, List.setIfInBounds_toArray, List.set_cons_zero, List.set_cons_succ])
            refine' tk_any 6 48 (v := _) ?hi70006 ?hd70006 (by kernel_rfl) (by kernel_rfl) (by kernel_rfl) (fun _ _ _ h => h) ?hy70006 hHeld ?hr70006
            case hi70006 => (simp only [List.getElem?_toArray, List.getElem?_cons_succ, List.getElem?_cons_zero]; rfl)
            case hd70006 => rfl
            case hy70006 =>
              refine' Or.inl ⟨?hw70006, ?hx70006⟩
              case hw70006 => rfl
              case hx70006 => (intro wz hSw; (try dsimp only at hSw); have y8 := (hSw.cell (p := ⟨w.heap.size, 11, none⟩) HLT.out.1 HLT.out.2.1).trans X11; have y100 := (hSw.cell (p := ⟨b, _, none⟩) HBL.out.1 HBL.out.2).trans e0; have y101 := (hSw.cell (p := ⟨b, _, none⟩) HBL.out.1 HBL.out.2).trans e1; have y102 := (hSw.cell (p := ⟨b, _, none⟩) HBL.out.1 HBL.out.2).trans e2; have y103 := (hSw.cell (p := ⟨b, _, none⟩) HBL.out.1 HBL.out.2).trans e3; have y104 := (hSw.cell (p := ⟨b, _, none⟩) HBL.out.1 HBL.out.2).trans e4; have y105 := (hSw.cell (p := ⟨b, _, none⟩) HBL.out.1 HBL.out.2).trans e5; have y106 := (hSw.cell (p := ⟨b, _, none⟩) HBL.out.1 HBL.out.2).trans e6; have y107 := (hSw.cell (p := ⟨b, _, none⟩) HBL.out.1 HBL.out.2).trans e7; have y108 := (hSw.cell (p := ⟨b, _, none⟩) HBL.out.1 HBL.out.2).trans e8; have y109 := (hSw.cell (p := ⟨b, _, none⟩) HBL.out.1 HBL.out.2).trans e9; have y110 := (hSw.cell (p := ⟨b, _, none⟩) HBL.out.1 HBL.out.2).trans e10; have y111 := (hSw.cell (p := ⟨b, _, none⟩) HBL.out.1 HBL.out.2).trans e11; go_simp; (try with_reducible rfl))
            (try simp only [Act.put, List.setIfInBounds_toArray, List.set_cons_zero, List.set_cons_succ])
            refine' tk_two 1 7 ?hi70021 ?hj70021 (by kernel_rfl) ?ha70021 ?hb70021
            case hi70021 => (simp only [List.getElem?_toArray, List.getElem?_cons_succ, List.getElem?_cons_zero]; rfl)
            case hj70021 => (simp only [List.getElem?_toArray, List.getElem?_cons_succ, List.getElem?_cons_zero]; rfl)
            case ha70021 =>
              intro K hK
              go_simp
              clear hHeld
              refine hK.out _ _ (by (try dsimp only); exact HRL.out.then HWD.out) (fun hHeld => ?_)
              clear hK K
              (try simp only [Act.put, List.setIfInBounds_toArray, List.set_cons_zero, List.set_cons_succ])
              refine' tk_call 7 ?hi70007 (by kernel_rfl) ?hr70007
              case hi70007 => (simp only [List.getElem?_toArray, List.getElem?_cons_succ, List.getElem?_cons_zero]; rfl)
              intro K hK
              go_simp
              go_at_call 9
              refine (IH.out d _ wd (fun x => (fun x => (N x ∨ x = w.heap.size + 1) ∨ x = w.heap.size + 1 + 1) x ∨ (Value.slice ra i rc).ownBlock = some x) HSD.out.1 HSD.out.2 (fun x hx => hx.elim (fun h => Nat.lt_of_lt_of_le (HNB1.out x h) (by have h1 := HRL.out.size; have h2 := HWD.out.size; omega)) fun h => Nat.lt_of_lt_of_le (HOW.out x h).2 HWD.out.size) HV.out.cv).mono ?_
              rintro e w2 ⟨⟨u, rfl, hu⟩, hb⟩
              obtain ⟨q1, k1, q2, k2, rfl, _, _⟩ := hu.form
              have HU := Lib.hid hu
              have HB2 := Lib.hid hb
              have hbt : But (w.heap.size + 1 + 1) W1 w2 := (HRL.out.then HWD.out).then hb
              have HBT := Lib.hid hbt
              have oc2 : w2.cell? ⟨(w.heap.size + 1 + 1), 11, none⟩ = some (.slice ra i rc) := (hb.cell (p := ⟨_, 11, none⟩) (Nat.lt_of_lt_of_le HB.out.lt HWD.out.size)).trans ocd
              clear hu hb hbt
              go_wp2_with fail
              clear hHeld
              refine hK.out _ _ (by (try dsimp only); exact HBT.out) (fun hHeld => ?_)
              clear hK K
              (try simp only [Act.put, List.setIfInBounds_toArray, List.set_cons_zero, List.set_cons_succ])
              refine' tk_call 8 ?hi70008 (by kernel_rfl) ?hr70008
              case hi70008 => (simp only [List.getElem?_toArray, List.getElem?_cons_succ, List.getElem?_cons_zero]; rfl)
              intro K hK
              go_simp
              obtain ⟨wA, hwA⟩ : ∃ wA : World, wA = w2.alloc (.cells #[.int .i64 d.h.f0, .int .i64 d.h.f1, .int .i64 d.h.f2, .int .i64 d.h.f3, .int .i64 d.h.f4, .int .i64 d.h.f5, .int .i64 d.h.pair, .int .i64 d.h.pl, .slice q1 d.pairs.length k1, .int .i64 d.h.fn, .int .i64 d.h.fl, .slice q2 d.funs.length k2] 30) := ⟨_, rfl⟩
              rw [← hwA]
              have hAB : Below w2.heap.size w2 wA := by rw [hwA]; exact (Below.refl _ _).alloc (Nat.le_refl _) _
              have HNB := Lib.hid (show wA.heap[w2.heap.size]? = some (.cells #[.int .i64 d.h.f0, .int .i64 d.h.f1, .int .i64 d.h.f2, .int .i64 d.h.f3, .int .i64 d.h.f4, .int .i64 d.h.f5, .int .i64 d.h.pair, .int .i64 d.h.pl, .slice q1 d.pairs.length k1, .int .i64 d.h.fn, .int .i64 d.h.fl, .slice q2 d.funs.length k2] 30 (0, 0)) by rw [hwA]; exact heap_alloc_new _ _)
              have ocA : wA.cell? ⟨(w.heap.size + 1 + 1), 11, none⟩ = some (.slice ra i rc) := (hAB.cell (p := ⟨_, 11, none⟩) (Nat.lt_of_lt_of_le HB.out.lt (Nat.le_trans HWD.out.size HB2.out.size))).trans oc2
              have hrow2 := (HROW.out.below HWD.out).below HB2.out
              obtain ⟨rs, hown, hraw⟩ := hrow2
              rw [HLE.out] at hown
              have HOA := Lib.hid (show wA.ownsRow W1.heap.size 30 12 (.slice ra i rc) i (cosCells rs) by rw [hwA]; exact hown.alloc _)
              have HRAW := Lib.hid hraw
              have HWA := Lib.hid hwA
              have HW1 := Lib.hid (show W1.heap.size ≤ wA.heap.size from Nat.le_trans HBT.out.size hAB.size)
              have HAB := Lib.hid hAB
              clear hAB hwA hown hraw
              clear hHeld
              refine hK.out _ _ (by (try dsimp only); exact HBT.out.then HAB.out) (fun hHeld => ?_)
              clear hK K
              (try simp only [Act.put, List.setIfInBounds_toArray, List.set_cons_zero, List.set_cons_succ])
              refine' tk_call 9 ?hi70009 (by kernel_rfl) ?hr70009
              case hi70009 => (simp only [List.getElem?_toArray, List.getElem?_cons_succ, List.getElem?_cons_zero]; rfl)
              intro K hK
              refine step_append_lies _ (by rfl) _ _ _ (by rfl) W1.heap.size 30 i0 _ 12 128 Tryd.underlying28 hi hz0 hz1 hz2 rfl (by omega) (.slice ra i rc) i (cosCells rs) (by rfl) HOA.out ⟨w2.heap.size, 0, none⟩ 1 1 [.int .i64 d.h.f0, .int .i64 d.h.f1, .int .i64 d.h.f2, .int .i64 d.h.f3, .int .i64 d.h.f4, .int .i64 d.h.f5, .int .i64 d.h.pair, .int .i64 d.h.pl, .slice q1 d.pairs.length k1, .int .i64 d.h.fn, .int .i64 d.h.fl, .slice q2 d.funs.length k2] (by rfl) (by rfl) (World.news_of_block (cs := #[.int .i64 d.h.f0, .int .i64 d.h.f1, .int .i64 d.h.f2, .int .i64 d.h.f3, .int .i64 d.h.f4, .int .i64 d.h.f5, .int .i64 d.h.pair, .int .i64 d.h.pl, .slice q1 d.pairs.length k1, .int .i64 d.h.fn, .int .i64 d.h.fl, .slice q2 d.funs.length k2]) (t := 30) (fr := (0, 0)) HNB.out) (by simp [Value.oneCell']) (by omega) (by unfold maxLen; omega) (by omega) HW1.out wA.heap.size rfl ?_
              intro gg cap w9 hown9 hgrow9 hat9 hlt9
              have hb9 : But (w.heap.size + 1 + 1) W1 w9 := (HBT.out.then HAB.out).grown hgrow9 (fun x hx => (HOW.out x hx).1)
              have hbx9 : CBox w9 (w.heap.size + 1 + 1) 30 ⟨c.h, .slice ra1 np rc1, (.slice ra i rc)⟩ := (hgrow9.block _ (Nat.lt_of_lt_of_le HB.out.lt (Nat.le_trans HWD.out.size (Nat.le_trans HB2.out.size HAB.out.size))) (fun e => by have h1 := (HOW.out _ e.symm).1; have h2 := HLT.out.2.2; omega)).trans (((HB.out.keep HWD.out).keep HB2.out).keep HAB.out)
              have hrow9 : RowC 30 (fun x => (N x ∨ x = w.heap.size + 1) ∨ x = w.heap.size + 1 + 1) W1.heap.size w9 (.slice (some ⟨gg, 0, none⟩) (i + 1) cap) (c.funs.take (i + 1)) := by
                have h2 : RawCo w2 (fun b => Lc (fun x => (N x ∨ x = w.heap.size + 1) ∨ x = w.heap.size + 1 + 1) w2 b ∧ (Value.slice ra i rc).ownBlock ≠ some b) ⟨d.h, .slice q1 d.pairs.length k1, .slice q2 d.funs.length k2⟩ d := HU.out.raw.mono (fun b h => ⟨⟨h.1, fun e => h.2 (.inl e)⟩, fun e => h.2 (.inr e)⟩) fun _ _ _ => rfl
                have h1 := HRAW.out
                have hg9 := hgrow9
                rw [HWA.out] at hg9
                have hl9 : (Value.slice ra i rc).ownBlock = some gg ∨ gg = w2.heap.size + 1 := hat9.imp id fun h => by rw [h, HWA.out]; simp
                have hlen := HLE.out
                have h3 := rowc_push (l := c.funs.take i) (cap := cap) h1 h2 hg9 hl9 (by rw [hlen]; exact hown9)
                rw [hlen] at h3
                rw [HTK.out]; exact h3
              have hc9 : w9.cell? ⟨(w.heap.size + 1 + 1), 11, none⟩ = some (.slice ra i rc) := hbx9.c11
              have hf9 : w9.frozen? ⟨(w.heap.size + 1 + 1), 11, none⟩ = false := hbx9.fr 11
              have HB9 := Lib.hid hb9
              have HBX9 := Lib.hid hbx9
              have HROW9 := Lib.hid hrow9
              clear hb9 hbx9 hrow9 hown9 hgrow9 hat9 hlt9
              clear hHeld
              refine hK.out _ _ (by (try dsimp only); exact HB9.out) (fun hHeld => ?_)
              clear hK K
              (try simp only [Act.put, List.setIfInBounds_toArray, List.set_cons_zero, List.set_cons_succ])
              refine' tk_any 10 52 (v := _) ?hi70010 ?hd70010 (by kernel_rfl) (by kernel_rfl) (by kernel_rfl) (fun _ _ _ h => h) ?hy70010 hHeld ?hr70010
              case hi70010 => (simp only [List.getElem?_toArray, List.getElem?_cons_succ, List.getElem?_cons_zero]; rfl)
              case hd70010 => rfl
              case hy70010 =>
                refine' Or.inl ⟨?hw70010, ?hx70010⟩
                case hw70010 => rfl
                case hx70010 => (intro w hSw; (try dsimp only at hSw); go_simp; (try with_reducible rfl))
              (try simp only [Act.put, List.setIfInBounds_toArray, List.set_cons_zero, List.set_cons_succ])
              refine' tk_call 11 ?hi70011 (by kernel_rfl) ?hr70011
              case hi70011 => (simp only [List.getElem?_toArray, List.getElem?_cons_succ, List.getElem?_cons_zero]; rfl)
              intro K hK
              go_simp
              clear hHeld
              refine hK.out _ _ (by (try dsimp only); exact HB9.out.set _ _) (fun hHeld => ?_)
              clear hK K
              (try simp only [Act.put, List.setIfInBounds_toArray, List.set_cons_zero, List.set_cons_succ])
              refine wpAnyH_done (by kernel_rfl) ?_ _
              refine NoPanic.normal ?_
              go_wp2
              refine ⟨⟨i + 1, some ⟨gg, 0, none⟩, cap, HLT2.out, by go_num, Lib.hid HBX9.out.s11, Lib.hid (HROW9.out.store (.inr rfl) HLT.out.2.2), Lib.hid (HB9.out.set _ _)⟩, by have := HLT2.out; simp [intOf]; omega⟩
            case hb70021 =>
              intro K hK
              go_simp
              go_at_call 9
              refine (IH.out d _ wd (fun x => (fun x => (N x ∨ x = w.heap.size + 1) ∨ x = w.heap.size + 1 + 1) x ∨ (Value.slice ra i rc).ownBlock = some x) HSD.out.1 HSD.out.2 (fun x hx => hx.elim (fun h => Nat.lt_of_lt_of_le (HNB1.out x h) (by have h1 := HRL.out.size; have h2 := HWD.out.size; omega)) fun h => Nat.lt_of_lt_of_le (HOW.out x h).2 HWD.out.size) HV.out.cv).mono ?_
              rintro e w2 ⟨⟨u, rfl, hu⟩, hb⟩
              obtain ⟨q1, k1, q2, k2, rfl, _, _⟩ := hu.form
              have HU := Lib.hid hu
              have HB2 := Lib.hid hb
              have hbt : But (w.heap.size + 1 + 1) W1 w2 := (HRL.out.then HWD.out).then hb
              have HBT := Lib.hid hbt
              have oc2 : w2.cell? ⟨(w.heap.size + 1 + 1), 11, none⟩ = some (.slice ra i rc) := (hb.cell (p := ⟨_, 11, none⟩) (Nat.lt_of_lt_of_le HB.out.lt HWD.out.size)).trans ocd
              clear hu hb hbt
              go_wp2_with fail
              clear hHeld
              refine hK.out _ _ (by (try dsimp only); exact HBT.out) (fun hHeld => ?_)
              clear hK K
              (try simp only [Act.put, List.setIfInBounds_toArray, List.set_cons_zero, List.set_cons_succ])
              refine' tk_two 1 8 ?hi70020 ?hj70020 (by kernel_rfl) ?ha70020 ?hb70020
              case hi70020 => (simp only [List.getElem?_toArray, List.getElem?_cons_succ, List.getElem?_cons_zero]; rfl)
              case hj70020 => (simp only [List.getElem?_toArray, List.getElem?_cons_succ, List.getElem?_cons_zero]; rfl)
              case ha70020 =>
                intro K hK
                go_simp
                clear hHeld
                refine hK.out _ _ (by (try dsimp only); exact HBT.out) (fun hHeld => ?_)
                clear hK K
                (try simp only [Act.put, List.setIfInBounds_toArray, List.set_cons_zero, List.set_cons_succ])
                refine' tk_call 8 ?hi70012 (by kernel_rfl) ?hr70012
                case hi70012 => (simp only [List.getElem?_toArray, List.getElem?_cons_succ, List.getElem?_cons_zero]; rfl)
                intro K hK
                go_simp
                obtain ⟨wA, hwA⟩ : ∃ wA : World, wA = w2.alloc (.cells #[.int .i64 d.h.f0, .int .i64 d.h.f1, .int .i64 d.h.f2, .int .i64 d.h.f3, .int .i64 d.h.f4, .int .i64 d.h.f5, .int .i64 d.h.pair, .int .i64 d.h.pl, .slice q1 d.pairs.length k1, .int .i64 d.h.fn, .int .i64 d.h.fl, .slice q2 d.funs.length k2] 30) := ⟨_, rfl⟩
                rw [← hwA]
                have hAB : Below w2.heap.size w2 wA := by rw [hwA]; exact (Below.refl _ _).alloc (Nat.le_refl _) _
                have HNB := Lib.hid (show wA.heap[w2.heap.size]? = some (.cells #[.int .i64 d.h.f0, .int .i64 d.h.f1, .int .i64 d.h.f2, .int .i64 d.h.f3, .int .i64 d.h.f4, .int .i64 d.h.f5, .int .i64 d.h.pair, .int .i64 d.h.pl, .slice q1 d.pairs.length k1, .int .i64 d.h.fn, .int .i64 d.h.fl, .slice q2 d.funs.length k2] 30 (0, 0)) by rw [hwA]; exact heap_alloc_new _ _)
                have ocA : wA.cell? ⟨(w.heap.size + 1 + 1), 11, none⟩ = some (.slice ra i rc) := (hAB.cell (p := ⟨_, 11, none⟩) (Nat.lt_of_lt_of_le HB.out.lt (Nat.le_trans HWD.out.size HB2.out.size))).trans oc2
                have hrow2 := (HROW.out.below HWD.out).below HB2.out
                obtain ⟨rs, hown, hraw⟩ := hrow2
                rw [HLE.out] at hown
                have HOA := Lib.hid (show wA.ownsRow W1.heap.size 30 12 (.slice ra i rc) i (cosCells rs) by rw [hwA]; exact hown.alloc _)
                have HRAW := Lib.hid hraw
                have HWA := Lib.hid hwA
                have HW1 := Lib.hid (show W1.heap.size ≤ wA.heap.size from Nat.le_trans HBT.out.size hAB.size)
                have HAB := Lib.hid hAB
                clear hAB hwA hown hraw
                clear hHeld
                refine hK.out _ _ (by (try dsimp only); exact HBT.out.then HAB.out) (fun hHeld => ?_)
                clear hK K
                (try simp only [Act.put, List.setIfInBounds_toArray, List.set_cons_zero, List.set_cons_succ])
                refine' tk_call 9 ?hi70013 (by kernel_rfl) ?hr70013
                case hi70013 => (simp only [List.getElem?_toArray, List.getElem?_cons_succ, List.getElem?_cons_zero]; rfl)
                intro K hK
                refine step_append_lies _ (by rfl) _ _ _ (by rfl) W1.heap.size 30 i0 _ 12 128 Tryd.underlying28 hi hz0 hz1 hz2 rfl (by omega) (.slice ra i rc) i (cosCells rs) (by rfl) HOA.out ⟨w2.heap.size, 0, none⟩ 1 1 [.int .i64 d.h.f0, .int .i64 d.h.f1, .int .i64 d.h.f2, .int .i64 d.h.f3, .int .i64 d.h.f4, .int .i64 d.h.f5, .int .i64 d.h.pair, .int .i64 d.h.pl, .slice q1 d.pairs.length k1, .int .i64 d.h.fn, .int .i64 d.h.fl, .slice q2 d.funs.length k2] (by rfl) (by rfl) (World.news_of_block (cs := #[.int .i64 d.h.f0, .int .i64 d.h.f1, .int .i64 d.h.f2, .int .i64 d.h.f3, .int .i64 d.h.f4, .int .i64 d.h.f5, .int .i64 d.h.pair, .int .i64 d.h.pl, .slice q1 d.pairs.length k1, .int .i64 d.h.fn, .int .i64 d.h.fl, .slice q2 d.funs.length k2]) (t := 30) (fr := (0, 0)) HNB.out) (by simp [Value.oneCell']) (by omega) (by unfold maxLen; omega) (by omega) HW1.out wA.heap.size rfl ?_
                intro gg cap w9 hown9 hgrow9 hat9 hlt9
                have hb9 : But (w.heap.size + 1 + 1) W1 w9 := (HBT.out.then HAB.out).grown hgrow9 (fun x hx => (HOW.out x hx).1)
                have hbx9 : CBox w9 (w.heap.size + 1 + 1) 30 ⟨c.h, .slice ra1 np rc1, (.slice ra i rc)⟩ := (hgrow9.block _ (Nat.lt_of_lt_of_le HB.out.lt (Nat.le_trans HWD.out.size (Nat.le_trans HB2.out.size HAB.out.size))) (fun e => by have h1 := (HOW.out _ e.symm).1; have h2 := HLT.out.2.2; omega)).trans (((HB.out.keep HWD.out).keep HB2.out).keep HAB.out)
                have hrow9 : RowC 30 (fun x => (N x ∨ x = w.heap.size + 1) ∨ x = w.heap.size + 1 + 1) W1.heap.size w9 (.slice (some ⟨gg, 0, none⟩) (i + 1) cap) (c.funs.take (i + 1)) := by
                  have h2 : RawCo w2 (fun b => Lc (fun x => (N x ∨ x = w.heap.size + 1) ∨ x = w.heap.size + 1 + 1) w2 b ∧ (Value.slice ra i rc).ownBlock ≠ some b) ⟨d.h, .slice q1 d.pairs.length k1, .slice q2 d.funs.length k2⟩ d := HU.out.raw.mono (fun b h => ⟨⟨h.1, fun e => h.2 (.inl e)⟩, fun e => h.2 (.inr e)⟩) fun _ _ _ => rfl
                  have h1 := HRAW.out
                  have hg9 := hgrow9
                  rw [HWA.out] at hg9
                  have hl9 : (Value.slice ra i rc).ownBlock = some gg ∨ gg = w2.heap.size + 1 := hat9.imp id fun h => by rw [h, HWA.out]; simp
                  have hlen := HLE.out
                  have h3 := rowc_push (l := c.funs.take i) (cap := cap) h1 h2 hg9 hl9 (by rw [hlen]; exact hown9)
                  rw [hlen] at h3
                  rw [HTK.out]; exact h3
                have hc9 : w9.cell? ⟨(w.heap.size + 1 + 1), 11, none⟩ = some (.slice ra i rc) := hbx9.c11
                have hf9 : w9.frozen? ⟨(w.heap.size + 1 + 1), 11, none⟩ = false := hbx9.fr 11
                have HB9 := Lib.hid hb9
                have HBX9 := Lib.hid hbx9
                have HROW9 := Lib.hid hrow9
                clear hb9 hbx9 hrow9 hown9 hgrow9 hat9 hlt9
                clear hHeld
                refine hK.out _ _ (by (try dsimp only); exact HB9.out) (fun hHeld => ?_)
                clear hK K
                (try simp only [Act.put, List.setIfInBounds_toArray, List.set_cons_zero, List.set_cons_succ])
                refine' tk_any 10 52 (v := _) ?hi70014 ?hd70014 (by kernel_rfl) (by kernel_rfl) (by kernel_rfl) (fun _ _ _ h => h) ?hy70014 hHeld ?hr70014
                case hi70014 => (simp only [List.getElem?_toArray, List.getElem?_cons_succ, List.getElem?_cons_zero]; rfl)
                case hd70014 => rfl
                case hy70014 =>
                  refine' Or.inl ⟨?hw70014, ?hx70014⟩
                  case hw70014 => rfl
                  case hx70014 => (intro w hSw; (try dsimp only at hSw); go_simp; (try with_reducible rfl))
                (try simp only [Act.put, List.setIfInBounds_toArray, List.set_cons_zero, List.set_cons_succ])
                refine' tk_call 11 ?hi70015 (by kernel_rfl) ?hr70015
                case hi70015 => (simp only [List.getElem?_toArray, List.getElem?_cons_succ, List.getElem?_cons_zero]; rfl)
                intro K hK
                go_simp
                clear hHeld
                refine hK.out _ _ (by (try dsimp only); exact HB9.out.set _ _) (fun hHeld => ?_)
                clear hK K
                (try simp only [Act.put, List.setIfInBounds_toArray, List.set_cons_zero, List.set_cons_succ])
                refine wpAnyH_done (by kernel_rfl) ?_ _
                refine NoPanic.normal ?_
                go_wp2
                refine ⟨⟨i + 1, some ⟨gg, 0, none⟩, cap, HLT2.out, by go_num, Lib.hid HBX9.out.s11, Lib.hid (HROW9.out.store (.inr rfl) HLT.out.2.2), Lib.hid (HB9.out.set _ _)⟩, by have := HLT2.out; simp [intOf]; omega⟩
              case hb70020 =>
                intro K hK
                go_simp
                obtain ⟨wA, hwA⟩ : ∃ wA : World, wA = w2.alloc (.cells #[.int .i64 d.h.f0, .int .i64 d.h.f1, .int .i64 d.h.f2, .int .i64 d.h.f3, .int .i64 d.h.f4, .int .i64 d.h.f5, .int .i64 d.h.pair, .int .i64 d.h.pl, .slice q1 d.pairs.length k1, .int .i64 d.h.fn, .int .i64 d.h.fl, .slice q2 d.funs.length k2] 30) := ⟨_, rfl⟩
                rw [← hwA]
                have hAB : Below w2.heap.size w2 wA := by rw [hwA]; exact (Below.refl _ _).alloc (Nat.le_refl _) _
                have HNB := Lib.hid (show wA.heap[w2.heap.size]? = some (.cells #[.int .i64 d.h.f0, .int .i64 d.h.f1, .int .i64 d.h.f2, .int .i64 d.h.f3, .int .i64 d.h.f4, .int .i64 d.h.f5, .int .i64 d.h.pair, .int .i64 d.h.pl, .slice q1 d.pairs.length k1, .int .i64 d.h.fn, .int .i64 d.h.fl, .slice q2 d.funs.length k2] 30 (0, 0)) by rw [hwA]; exact heap_alloc_new _ _)
                have ocA : wA.cell? ⟨(w.heap.size + 1 + 1), 11, none⟩ = some (.slice ra i rc) := (hAB.cell (p := ⟨_, 11, none⟩) (Nat.lt_of_lt_of_le HB.out.lt (Nat.le_trans HWD.out.size HB2.out.size))).trans oc2
                have hrow2 := (HROW.out.below HWD.out).below HB2.out
                obtain ⟨rs, hown, hraw⟩ := hrow2
                rw [HLE.out] at hown
                have HOA := Lib.hid (show wA.ownsRow W1.heap.size 30 12 (.slice ra i rc) i (cosCells rs) by rw [hwA]; exact hown.alloc _)
                have HRAW := Lib.hid hraw
                have HWA := Lib.hid hwA
                have HW1 := Lib.hid (show W1.heap.size ≤ wA.heap.size from Nat.le_trans HBT.out.size hAB.size)
                have HAB := Lib.hid hAB
                clear hAB hwA hown hraw
                clear hHeld
                refine hK.out _ _ (by (try dsimp only); exact HBT.out.then HAB.out) (fun hHeld => ?_)
                clear hK K
                (try simp only [Act.put, List.setIfInBounds_toArray, List.set_cons_zero, List.set_cons_succ])
                refine' tk_call 1 ?hi70016 (by kernel_rfl) ?hr70016
                case hi70016 => (simp only [List.getElem?_toArray, List.getElem?_cons_succ, List.getElem?_cons_zero]; rfl)
                intro K hK
                go_simp
                clear hHeld
                refine hK.out _ _ (by (try dsimp only); exact HBT.out.then HAB.out) (fun hHeld => ?_)
                clear hK K
                (try simp only [Act.put, List.setIfInBounds_toArray, List.set_cons_zero, List.set_cons_succ])
                refine' tk_call 9 ?hi70017 (by kernel_rfl) ?hr70017
                case hi70017 => (simp only [List.getElem?_toArray, List.getElem?_cons_succ, List.getElem?_cons_zero]; rfl)
                intro K hK
                refine step_append_lies _ (by rfl) _ _ _ (by rfl) W1.heap.size 30 i0 _ 12 128 Tryd.underlying28 hi hz0 hz1 hz2 rfl (by omega) (.slice ra i rc) i (cosCells rs) (by rfl) HOA.out ⟨w2.heap.size, 0, none⟩ 1 1 [.int .i64 d.h.f0, .int .i64 d.h.f1, .int .i64 d.h.f2, .int .i64 d.h.f3, .int .i64 d.h.f4, .int .i64 d.h.f5, .int .i64 d.h.pair, .int .i64 d.h.pl, .slice q1 d.pairs.length k1, .int .i64 d.h.fn, .int .i64 d.h.fl, .slice q2 d.funs.length k2] (by rfl) (by rfl) (World.news_of_block (cs := #[.int .i64 d.h.f0, .int .i64 d.h.f1, .int .i64 d.h.f2, .int .i64 d.h.f3, .int .i64 d.h.f4, .int .i64 d.h.f5, .int .i64 d.h.pair, .int .i64 d.h.pl, .slice q1 d.pairs.length k1, .int .i64 d.h.fn, .int .i64 d.h.fl, .slice q2 d.funs.length k2]) (t := 30) (fr := (0, 0)) HNB.out) (by simp [Value.oneCell']) (by omega) (by unfold maxLen; omega) (by omega) HW1.out wA.heap.size rfl ?_
                intro gg cap w9 hown9 hgrow9 hat9 hlt9
                have hb9 : But (w.heap.size + 1 + 1) W1 w9 := (HBT.out.then HAB.out).grown hgrow9 (fun x hx => (HOW.out x hx).1)
                have hbx9 : CBox w9 (w.heap.size + 1 + 1) 30 ⟨c.h, .slice ra1 np rc1, (.slice ra i rc)⟩ := (hgrow9.block _ (Nat.lt_of_lt_of_le HB.out.lt (Nat.le_trans HWD.out.size (Nat.le_trans HB2.out.size HAB.out.size))) (fun e => by have h1 := (HOW.out _ e.symm).1; have h2 := HLT.out.2.2; omega)).trans (((HB.out.keep HWD.out).keep HB2.out).keep HAB.out)
                have hrow9 : RowC 30 (fun x => (N x ∨ x = w.heap.size + 1) ∨ x = w.heap.size + 1 + 1) W1.heap.size w9 (.slice (some ⟨gg, 0, none⟩) (i + 1) cap) (c.funs.take (i + 1)) := by
                  have h2 : RawCo w2 (fun b => Lc (fun x => (N x ∨ x = w.heap.size + 1) ∨ x = w.heap.size + 1 + 1) w2 b ∧ (Value.slice ra i rc).ownBlock ≠ some b) ⟨d.h, .slice q1 d.pairs.length k1, .slice q2 d.funs.length k2⟩ d := HU.out.raw.mono (fun b h => ⟨⟨h.1, fun e => h.2 (.inl e)⟩, fun e => h.2 (.inr e)⟩) fun _ _ _ => rfl
                  have h1 := HRAW.out
                  have hg9 := hgrow9
                  rw [HWA.out] at hg9
                  have hl9 : (Value.slice ra i rc).ownBlock = some gg ∨ gg = w2.heap.size + 1 := hat9.imp id fun h => by rw [h, HWA.out]; simp
                  have hlen := HLE.out
                  have h3 := rowc_push (l := c.funs.take i) (cap := cap) h1 h2 hg9 hl9 (by rw [hlen]; exact hown9)
                  rw [hlen] at h3
                  rw [HTK.out]; exact h3
                have hc9 : w9.cell? ⟨(w.heap.size + 1 + 1), 11, none⟩ = some (.slice ra i rc) := hbx9.c11
                have hf9 : w9.frozen? ⟨(w.heap.size + 1 + 1), 11, none⟩ = false := hbx9.fr 11
                have HB9 := Lib.hid hb9
                have HBX9 := Lib.hid hbx9
                have HROW9 := Lib.hid hrow9
                clear hb9 hbx9 hrow9 hown9 hgrow9 hat9 hlt9
                clear hHeld
                refine hK.out _ _ (by (try dsimp only); exact HB9.out) (fun hHeld => ?_)
                clear hK K
                (try simp only [Act.put, List.setIfInBounds_toArray, List.set_cons_zero, List.set_cons_succ])
                refine' tk_any 10 52 (v := _) ?hi70018 ?hd70018 (by kernel_rfl) (by kernel_rfl) (by kernel_rfl) (fun _ _ _ h => h) ?hy70018 hHeld ?hr70018
                case hi70018 => (simp only [List.getElem?_toArray, List.getElem?_cons_succ, List.getElem?_cons_zero]; rfl)
                case hd70018 => rfl
                case hy70018 =>
                  refine' Or.inl ⟨?hw70018, ?hx70018⟩
                  case hw70018 => rfl
                  case hx70018 => (intro w hSw; (try dsimp only at hSw); go_simp; (try with_reducible rfl))
                (try simp only [Act.put, List.setIfInBounds_toArray, List.set_cons_zero, List.set_cons_succ])
                refine' tk_call 11 ?hi70019 (by kernel_rfl) ?hr70019
                case hi70019 => (simp only [List.getElem?_toArray, List.getElem?_cons_succ, List.getElem?_cons_zero]; rfl)
                intro K hK
                go_simp
                clear hHeld
                refine hK.out _ _ (by (try dsimp only); exact HB9.out.set _ _) (fun hHeld => ?_)
                clear hK K
                (try simp only [Act.put, List.setIfInBounds_toArray, List.set_cons_zero, List.set_cons_succ])
                refine wpAnyH_done (by kernel_rfl) ?_ _
                refine NoPanic.normal ?_
                go_wp2
                refine ⟨⟨i + 1, some ⟨gg, 0, none⟩, cap, HLT2.out, by go_num, Lib.hid HBX9.out.s11, Lib.hid (HROW9.out.store (.inr rfl) HLT.out.2.2), Lib.hid (HB9.out.set _ _)⟩, by have := HLT2.out; simp [intOf]; omega⟩
          · have hin : i = nf := by omega
            have htk : c.funs.take i = c.funs := by rw [hin, HFN.out, List.take_length]
            have hrow := HROW.out.done (fun b h => by have := HNB1.out b h; have := HRW.out; omega) (by rw [htk]; have := HT.out.2; unfold maxLen; omega)
            rw [htk] at hrow
            rw [hin] at hrow HB
            have HRF := Lib.hid hrow
            have HR1 := Lib.hid (CoSN.but HROW1.out HRL.out (.inr rfl))
            have hr := HR.out.but HRL.out (by omega)
            have HRB := Lib.hid hr
            have HLB := Lib.hid (HL.out.trans (HRL.out.below (B := w.heap.size) (by omega) (by have := HL.out.size; omega)))
            have o0 : wr.cell? ⟨(w.heap.size + 1 + 1), 0, none⟩ = some (.int .i64 c.h.f0) := HB.out.c0
            have o1 : wr.cell? ⟨(w.heap.size + 1 + 1), 1, none⟩ = some (.int .i64 c.h.f1) := HB.out.c1
            have o2 : wr.cell? ⟨(w.heap.size + 1 + 1), 2, none⟩ = some (.int .i64 c.h.f2) := HB.out.c2
            have o3 : wr.cell? ⟨(w.heap.size + 1 + 1), 3, none⟩ = some (.int .i64 c.h.f3) := HB.out.c3
            have o4 : wr.cell? ⟨(w.heap.size + 1 + 1), 4, none⟩ = some (.int .i64 c.h.f4) := HB.out.c4
            have o5 : wr.cell? ⟨(w.heap.size + 1 + 1), 5, none⟩ = some (.int .i64 c.h.f5) := HB.out.c5
            have o6 : wr.cell? ⟨(w.heap.size + 1 + 1), 6, none⟩ = some (.int .i64 c.h.pair) := HB.out.c6
            have o7 : wr.cell? ⟨(w.heap.size + 1 + 1), 7, none⟩ = some (.int .i64 c.h.pl) := HB.out.c7
            have o8 : wr.cell? ⟨(w.heap.size + 1 + 1), 8, none⟩ = some (.slice ra1 np rc1) := HB.out.c8
            have o9 : wr.cell? ⟨(w.heap.size + 1 + 1), 9, none⟩ = some (.int .i64 c.h.fn) := HB.out.c9
            have o10 : wr.cell? ⟨(w.heap.size + 1 + 1), 10, none⟩ = some (.int .i64 c.h.fl) := HB.out.c10
            have o11 : wr.cell? ⟨(w.heap.size + 1 + 1), 11, none⟩ = some (.slice ra nf rc) := HB.out.c11
            have r0 : wr.cell? ⟨(w.heap.size + 1), 0, none⟩ = some (.int .i64 0) := HRB.out.c0
            have r1 : wr.cell? ⟨(w.heap.size + 1), 1, none⟩ = some (.int .i64 0) := HRB.out.c1
            have r2 : wr.cell? ⟨(w.heap.size + 1), 2, none⟩ = some (.int .i64 0) := HRB.out.c2
            have r3 : wr.cell? ⟨(w.heap.size + 1), 3, none⟩ = some (.int .i64 0) := HRB.out.c3
            have r4 : wr.cell? ⟨(w.heap.size + 1), 4, none⟩ = some (.int .i64 0) := HRB.out.c4
            have r5 : wr.cell? ⟨(w.heap.size + 1), 5, none⟩ = some (.int .i64 0) := HRB.out.c5
            have r6 : wr.cell? ⟨(w.heap.size + 1), 6, none⟩ = some (.int .i64 0) := HRB.out.c6
            have r7 : wr.cell? ⟨(w.heap.size + 1), 7, none⟩ = some (.int .i64 0) := HRB.out.c7
            have r8 : wr.cell? ⟨(w.heap.size + 1), 8, none⟩ = some (.slice none 0 0) := HRB.out.c8
            have r9 : wr.cell? ⟨(w.heap.size + 1), 9, none⟩ = some (.int .i64 0) := HRB.out.c9
            have r10 : wr.cell? ⟨(w.heap.size + 1), 10, none⟩ = some (.int .i64 0) := HRB.out.c10
            have r11 : wr.cell? ⟨(w.heap.size + 1), 11, none⟩ = some (.slice none 0 0) := HRB.out.c11
            have fr0 : wr.frozen? ⟨(w.heap.size + 1), 0, none⟩ = false := HRB.out.fr 0
            have fr1 : wr.frozen? ⟨(w.heap.size + 1), 1, none⟩ = false := HRB.out.fr 1
            have fr2 : wr.frozen? ⟨(w.heap.size + 1), 2, none⟩ = false := HRB.out.fr 2
            have fr3 : wr.frozen? ⟨(w.heap.size + 1), 3, none⟩ = false := HRB.out.fr 3
            have fr4 : wr.frozen? ⟨(w.heap.size + 1), 4, none⟩ = false := HRB.out.fr 4
            have fr5 : wr.frozen? ⟨(w.heap.size + 1), 5, none⟩ = false := HRB.out.fr 5
            have fr6 : wr.frozen? ⟨(w.heap.size + 1), 6, none⟩ = false := HRB.out.fr 6
            have fr7 : wr.frozen? ⟨(w.heap.size + 1), 7, none⟩ = false := HRB.out.fr 7
            have fr8 : wr.frozen? ⟨(w.heap.size + 1), 8, none⟩ = false := HRB.out.fr 8
            have fr9 : wr.frozen? ⟨(w.heap.size + 1), 9, none⟩ = false := HRB.out.fr 9
            have fr10 : wr.frozen? ⟨(w.heap.size + 1), 10, none⟩ = false := HRB.out.fr 10
            have fr11 : wr.frozen? ⟨(w.heap.size + 1), 11, none⟩ = false := HRB.out.fr 11
            clear hrow hr htk hin HROW HRL HB
            go_wp2
            have HBF := Lib.hid (show CBox (set12 (wr) (w.heap.size + 1) ⟨c.h, .slice ra1 np rc1, .slice ra nf rc⟩) (w.heap.size + 1) 30 ⟨c.h, .slice ra1 np rc1, .slice ra nf rc⟩ from CBox.set12 (HRB.out))
            have HPOST := Lib.hid (show CoPost N (c) w (.returned (.agg #[.int .i64 c.h.f0, .int .i64 c.h.f1, .int .i64 c.h.f2, .int .i64 c.h.f3, .int .i64 c.h.f4, .int .i64 c.h.f5, .int .i64 c.h.pair, .int .i64 c.h.pl, .slice ra1 np rc1, .int .i64 c.h.fn, .int .i64 c.h.fl, .slice ra nf rc])) (set12 (wr) (w.heap.size + 1) ⟨c.h, .slice ra1 np rc1, .slice ra nf rc⟩) from by rw [c.eta]; exact ⟨⟨_, rfl, (CoVN.set12 (g := w.heap.size + 1) (CoVN.mk (h := c.h) HR1.out HRF.out) (.inl (.inr rfl))).mono fun _ _ h => .inl (.inl h)⟩, Below.set12 (g := w.heap.size + 1) HLB.out (by omega)⟩)
            change bodyPost _ _ _ _ _ (set12 (wr) (w.heap.size + 1) ⟨c.h, .slice ra1 np rc1, .slice ra nf rc⟩)
            generalize set12 (wr) (w.heap.size + 1) ⟨c.h, .slice ra1 np rc1, .slice ra nf rc⟩ = wf at HBF HPOST ⊢
            have z0 := HBF.out.c0; have z1 := HBF.out.c1; have z2 := HBF.out.c2; have z3 := HBF.out.c3; have z4 := HBF.out.c4; have z5 := HBF.out.c5; have z6 := HBF.out.c6; have z7 := HBF.out.c7; have z8 := HBF.out.c8; have z9 := HBF.out.c9; have z10 := HBF.out.c10; have z11 := HBF.out.c11
            clear HBF
            refine bodyPost_ret (v := .agg #[.int .i64 c.h.f0, .int .i64 c.h.f1, .int .i64 c.h.f2, .int .i64 c.h.f3, .int .i64 c.h.f4, .int .i64 c.h.f5, .int .i64 c.h.pair, .int .i64 c.h.pl, .slice ra1 np rc1, .int .i64 c.h.fn, .int .i64 c.h.fl, .slice ra nf rc]) ?_ ?_ ?_
            · simp [results, Tryd.results9, go_sem, z0, z1, z2, z3, z4, z5, z6, z7, z8, z9, z10, z11]
            · rfl
            · exact HPOST.out
end Go.Proofs.YtlalnkabfigodaaDoor

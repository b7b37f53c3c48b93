import Derived.Test.YtghgjefobfaodaaDoorDatAw
namespace Go.Proofs.YtghgjefobfaodaaDoor
open Go.RowKit

set_option maxRecDepth 100000 in
set_option maxHeartbeats 4000000 in
theorem prints_dark (a b : Dat) (sa sb : Value) (w : World) (ha : okT a) (hb : okT b) (hsa : SliceOf w (· < w.heap.size) sa a.list) (hsb : SliceOf w (· < w.heap.size) sb b.list) (hd : (lightD a && lightD b) = false) :
    Calls Tryd.prog 4 #[.agg #[.int .i64 a.kind, .string a.text, sa], .agg #[.int .i64 b.kind, .string b.text, sb]] w fun e w' => e = .returned (.bool true) ∧ Below w.heap.size w w' := by
  have A := fun w => awake_d w
  have LA := fun w' h => light_d a sa w' ha h
  have LB := fun w' h => light_d b sb w' hb h
  have HA := Lib.hid A
  have HLA := Lib.hid LA
  have HLB := Lib.hid LB
  have HSA := Lib.hid hsa
  have HSB := Lib.hid hsb
  obtain ⟨x, hx⟩ : ∃ x, x = lightD a := ⟨_, rfl⟩
  obtain ⟨y, hy⟩ : ∃ x, x = lightD b := ⟨_, rfl⟩
  obtain ⟨ka, hka⟩ : ∃ x, x = a.kind := ⟨_, rfl⟩
  obtain ⟨ta, hta⟩ : ∃ x, x = a.text := ⟨_, rfl⟩
  obtain ⟨kb, hkb⟩ : ∃ x, x = b.kind := ⟨_, rfl⟩
  obtain ⟨tb, htb⟩ : ∃ x, x = b.text := ⟨_, rfl⟩
  rw [← hx] at HLA hd
  rw [← hy] at HLB hd
  rw [← hka, ← hta] at HLA ⊢
  rw [← hkb, ← htb] at HLB ⊢
  clear A LA LB hsa hsb ha hb hx hy hka hta hkb htb
  obtain ⟨w2, hw2⟩ : ∃ w2, w2 = (w.alloc (.cells #[.int .i64 ka, .string ta, sa] 30)).alloc (.cells #[.int .i64 kb, .string tb, sb] 30) := ⟨_, rfl⟩
  have a0 : w2.cell? ⟨w.heap.size, 0, none⟩ = some (.int .i64 ka) := by rw [hw2]; simp [go_sem]
  have a1 : w2.cell? ⟨w.heap.size, 1, none⟩ = some (.string ta) := by rw [hw2]; simp [go_sem]
  have a2 : w2.cell? ⟨w.heap.size, 2, none⟩ = some sa := by rw [hw2]; simp [go_sem]
  have b0 : w2.cell? ⟨w.heap.size + 1, 0, none⟩ = some (.int .i64 kb) := by rw [hw2]; simp [go_sem]
  have b1 : w2.cell? ⟨w.heap.size + 1, 1, none⟩ = some (.string tb) := by rw [hw2]; simp [go_sem]
  have b2 : w2.cell? ⟨w.heap.size + 1, 2, none⟩ = some sb := by rw [hw2]; simp [go_sem]
  have hbw : Below w.heap.size w w2 := by rw [hw2]; exact ((Below.refl _ _).alloc (Nat.le_refl _) _).alloc (by simp) _
  have hlt0 : w.heap.size < w2.heap.size := by rw [hw2]; simp; omega
  have hlt1 : w.heap.size + 1 < w2.heap.size := by rw [hw2]; simp
  have HBW := Lib.hid hbw
  clear hbw
  go_enter Tryd.func4, Tryd.ntmps4
  go_wp2_with fail
  rw [← hw2]
  clear hw2
  refine (HA.out _).mono ?_
  rintro e w3 ⟨rfl, hb3⟩
  have c0 := (hb3.cell (p := ⟨w.heap.size, 0, none⟩) hlt0).trans a0
  have c1 := (hb3.cell (p := ⟨w.heap.size, 1, none⟩) hlt0).trans a1
  have c2 := (hb3.cell (p := ⟨w.heap.size, 2, none⟩) hlt0).trans a2
  have d0 := (hb3.cell (p := ⟨w.heap.size + 1, 0, none⟩) hlt1).trans b0
  have d1 := (hb3.cell (p := ⟨w.heap.size + 1, 1, none⟩) hlt1).trans b1
  have d2 := (hb3.cell (p := ⟨w.heap.size + 1, 2, none⟩) hlt1).trans b2
  have HB3 := Lib.hid (HBW.out.trans (hb3.mono HBW.out.size))
  have hl0 : w.heap.size < w3.heap.size := by have := hb3.size; omega
  have hl1 : w.heap.size + 1 < w3.heap.size := by have := hb3.size; omega
  clear a0 a1 a2 b0 b1 b2 hlt0 hlt1 hb3
  go_wp2_with fail
  refine (HLA.out _ ((HSA.out.under HB3.out).grow (by omega))).mono ?_
  rintro e w4 ⟨rfl, hb4⟩
  have a0 := (hb4.cell (p := ⟨w.heap.size, 0, none⟩) hl0).trans c0
  have a1 := (hb4.cell (p := ⟨w.heap.size, 1, none⟩) hl0).trans c1
  have a2 := (hb4.cell (p := ⟨w.heap.size, 2, none⟩) hl0).trans c2
  have b0 := (hb4.cell (p := ⟨w.heap.size + 1, 0, none⟩) hl1).trans d0
  have b1 := (hb4.cell (p := ⟨w.heap.size + 1, 1, none⟩) hl1).trans d1
  have b2 := (hb4.cell (p := ⟨w.heap.size + 1, 2, none⟩) hl1).trans d2
  have HB4 := Lib.hid (HB3.out.trans (hb4.mono HB3.out.size))
  have hm0 : w.heap.size < w4.heap.size := by have := hb4.size; omega
  have hm1 : w.heap.size + 1 < w4.heap.size := by have := hb4.size; omega
  clear c0 c1 c2 d0 d1 d2 hl0 hl1 hb4
  go_wp2_with fail
  refine (HLB.out _ ((HSB.out.under HB4.out).grow (by omega))).mono ?_
  rintro e w5 ⟨rfl, hb5⟩
  have HB5 := Lib.hid (HB4.out.trans (hb5.mono HB4.out.size))
  clear hb5
  cases x <;> cases y <;> first | (cases hd; done) | skip
  all_goals
    go_wp2
    go_ret
    exact ⟨rfl, HB5.out⟩

set_option maxRecDepth 100000 in
set_option maxHeartbeats 4000000 in
theorem prints_lit (a b : Dat) (sa sb : Value) (w : World) (ha : okT a) (hb : okT b) (hsa : SliceOf w (· < w.heap.size) sa a.list) (hsb : SliceOf w (· < w.heap.size) sb b.list) (hda : lightD a = true) (hdb : lightD b = true) :
    Calls Tryd.prog 4 #[.agg #[.int .i64 a.kind, .string a.text, sa], .agg #[.int .i64 b.kind, .string b.text, sb]] w fun e w' => e = .returned (.bool true) ∧ Below w.heap.size w w' := by
  have A := fun w => awake_d w
  have LA := fun w' h => light_d a sa w' ha h
  have LB := fun w' h => light_d b sb w' hb h
  obtain ⟨hwa, hga⟩ := light_facts hda
  rw [hda] at LA
  rw [hdb] at LB
  have P1 := fun w' h => print_any a sa w' (by omega) h
  have P2 := fun w' h => refPrint_any a sa w' (by omega) h
  have R1 := fun w' h => right_any a sa w' (by omega) h
  have R2 := fun w' h => refRight_any a sa w' (by omega) h
  rw [rightR_eq] at R2
  have S1 := fun w' h1 h2 => same_d a b sa sb w' (by omega) h1 h2
  have S2 := fun w' h1 h2 => refSame_any a b sa sb w' h1 h2
  have S3 := fun w' h1 h2 => same_d a a sa sa w' (by omega) h1 h2
  rw [sameD_refl] at S3
  have HA := Lib.hid A
  have HSA := Lib.hid hsa
  have HSB := Lib.hid hsb
  obtain ⟨ps, hps⟩ : ∃ x, x = printS a := ⟨_, rfl⟩
  obtain ⟨pe, hpe⟩ : ∃ x, x = printE a := ⟨_, rfl⟩
  obtain ⟨rr, hrr⟩ : ∃ x, x = rightD 60 a := ⟨_, rfl⟩
  obtain ⟨ss, hss⟩ : ∃ x, x = sameD a b := ⟨_, rfl⟩
  obtain ⟨ka, hka⟩ : ∃ x, x = a.kind := ⟨_, rfl⟩
  obtain ⟨ta, hta⟩ : ∃ x, x = a.text := ⟨_, rfl⟩
  obtain ⟨kb, hkb⟩ : ∃ x, x = b.kind := ⟨_, rfl⟩
  obtain ⟨tb, htb⟩ : ∃ x, x = b.text := ⟨_, rfl⟩
  rw [← hps, ← hpe] at P1 P2
  rw [← hrr] at R1 R2
  rw [← hss] at S1 S2
  rw [← hka, ← hta] at LA P1 P2 R1 R2 S3
  rw [← hkb, ← htb] at LB
  rw [← hka, ← hta, ← hkb, ← htb] at S1 S2 ⊢
  have HLA := Lib.hid LA
  have HLB := Lib.hid LB
  have HP1 := Lib.hid P1
  have HP2 := Lib.hid P2
  have HR1 := Lib.hid R1
  have HR2 := Lib.hid R2
  have HS1 := Lib.hid S1
  have HS2 := Lib.hid S2
  have HS3 := Lib.hid S3
  clear A LA LB P1 P2 R1 R2 S1 S2 S3 hsa hsb ha hb hps hpe hrr hss hka hta hkb htb hda hdb hwa hga
  obtain ⟨w2, hw2⟩ : ∃ w2, w2 = (w.alloc (.cells #[.int .i64 ka, .string ta, sa] 30)).alloc (.cells #[.int .i64 kb, .string tb, sb] 30) := ⟨_, rfl⟩
  have a0 : w2.cell? ⟨w.heap.size, 0, none⟩ = some (.int .i64 ka) := by rw [hw2]; simp [go_sem]
  have a1 : w2.cell? ⟨w.heap.size, 1, none⟩ = some (.string ta) := by rw [hw2]; simp [go_sem]
  have a2 : w2.cell? ⟨w.heap.size, 2, none⟩ = some sa := by rw [hw2]; simp [go_sem]
  have b0 : w2.cell? ⟨w.heap.size + 1, 0, none⟩ = some (.int .i64 kb) := by rw [hw2]; simp [go_sem]
  have b1 : w2.cell? ⟨w.heap.size + 1, 1, none⟩ = some (.string tb) := by rw [hw2]; simp [go_sem]
  have b2 : w2.cell? ⟨w.heap.size + 1, 2, none⟩ = some sb := by rw [hw2]; simp [go_sem]
  have hbw : Below w.heap.size w w2 := by rw [hw2]; exact ((Below.refl _ _).alloc (Nat.le_refl _) _).alloc (by simp) _
  have hlt0 : w.heap.size < w2.heap.size := by rw [hw2]; simp; omega
  have hlt1 : w.heap.size + 1 < w2.heap.size := by rw [hw2]; simp
  have HBW := Lib.hid hbw
  clear hbw
  go_enter Tryd.func4, Tryd.ntmps4
  go_wp2_with fail
  rw [← hw2]
  clear hw2
  refine (HA.out _).mono ?_
  rintro e w3 ⟨rfl, hb3⟩
  have c0 := (hb3.cell (p := ⟨w.heap.size, 0, none⟩) hlt0).trans a0
  have c1 := (hb3.cell (p := ⟨w.heap.size, 1, none⟩) hlt0).trans a1
  have c2 := (hb3.cell (p := ⟨w.heap.size, 2, none⟩) hlt0).trans a2
  have d0 := (hb3.cell (p := ⟨w.heap.size + 1, 0, none⟩) hlt1).trans b0
  have d1 := (hb3.cell (p := ⟨w.heap.size + 1, 1, none⟩) hlt1).trans b1
  have d2 := (hb3.cell (p := ⟨w.heap.size + 1, 2, none⟩) hlt1).trans b2
  have HB3 := Lib.hid (HBW.out.trans (hb3.mono HBW.out.size))
  have hl0 : w.heap.size < w3.heap.size := by have := hb3.size; omega
  have hl1 : w.heap.size + 1 < w3.heap.size := by have := hb3.size; omega
  clear a0 a1 a2 b0 b1 b2 hlt0 hlt1 hb3
  go_wp2_with fail
  refine (HLA.out _ ((HSA.out.under HB3.out).grow (by omega))).mono ?_
  rintro e w4 ⟨rfl, hb4⟩
  have a0 := (hb4.cell (p := ⟨w.heap.size, 0, none⟩) hl0).trans c0
  have a1 := (hb4.cell (p := ⟨w.heap.size, 1, none⟩) hl0).trans c1
  have a2 := (hb4.cell (p := ⟨w.heap.size, 2, none⟩) hl0).trans c2
  have b0 := (hb4.cell (p := ⟨w.heap.size + 1, 0, none⟩) hl1).trans d0
  have b1 := (hb4.cell (p := ⟨w.heap.size + 1, 1, none⟩) hl1).trans d1
  have b2 := (hb4.cell (p := ⟨w.heap.size + 1, 2, none⟩) hl1).trans d2
  have HB4 := Lib.hid (HB3.out.trans (hb4.mono HB3.out.size))
  have hm0 : w.heap.size < w4.heap.size := by have := hb4.size; omega
  have hm1 : w.heap.size + 1 < w4.heap.size := by have := hb4.size; omega
  clear c0 c1 c2 d0 d1 d2 hl0 hl1 hb4
  go_wp2_with fail
  refine (HLB.out _ ((HSB.out.under HB4.out).grow (by omega))).mono ?_
  rintro e w5 ⟨rfl, hb5⟩
  have c0 := (hb5.cell (p := ⟨w.heap.size, 0, none⟩) hm0).trans a0
  have c1 := (hb5.cell (p := ⟨w.heap.size, 1, none⟩) hm0).trans a1
  have c2 := (hb5.cell (p := ⟨w.heap.size, 2, none⟩) hm0).trans a2
  have d0 := (hb5.cell (p := ⟨w.heap.size + 1, 0, none⟩) hm1).trans b0
  have d1 := (hb5.cell (p := ⟨w.heap.size + 1, 1, none⟩) hm1).trans b1
  have d2 := (hb5.cell (p := ⟨w.heap.size + 1, 2, none⟩) hm1).trans b2
  have HB5 := Lib.hid (HB4.out.trans (hb5.mono HB4.out.size))
  have hl0 : w.heap.size < w5.heap.size := by have := hb5.size; omega
  have hl1 : w.heap.size + 1 < w5.heap.size := by have := hb5.size; omega
  clear a0 a1 a2 b0 b1 b2 hm0 hm1 hb5
  go_wp2_with fail
  refine (HP1.out _ ((HSA.out.under HB5.out).grow (by omega))).mono ?_
  rintro e w6 ⟨rfl, hb6⟩
  have a0 := (hb6.cell (p := ⟨w.heap.size, 0, none⟩) hl0).trans c0
  have a1 := (hb6.cell (p := ⟨w.heap.size, 1, none⟩) hl0).trans c1
  have a2 := (hb6.cell (p := ⟨w.heap.size, 2, none⟩) hl0).trans c2
  have b0 := (hb6.cell (p := ⟨w.heap.size + 1, 0, none⟩) hl1).trans d0
  have b1 := (hb6.cell (p := ⟨w.heap.size + 1, 1, none⟩) hl1).trans d1
  have b2 := (hb6.cell (p := ⟨w.heap.size + 1, 2, none⟩) hl1).trans d2
  have HB6 := Lib.hid (HB5.out.trans (hb6.mono HB5.out.size))
  have hm0 : w.heap.size < w6.heap.size := by have := hb6.size; omega
  have hm1 : w.heap.size + 1 < w6.heap.size := by have := hb6.size; omega
  clear c0 c1 c2 d0 d1 d2 hl0 hl1 hb6
  go_wp2_with fail
  refine (HP2.out _ ((HSA.out.under HB6.out).grow (by omega))).mono ?_
  rintro e w7 ⟨rfl, hb7⟩
  have d0 := (hb7.cell (p := ⟨w.heap.size, 0, none⟩) hm0).trans a0
  have d1 := (hb7.cell (p := ⟨w.heap.size, 1, none⟩) hm0).trans a1
  have d2 := (hb7.cell (p := ⟨w.heap.size, 2, none⟩) hm0).trans a2
  have p0 := (hb7.cell (p := ⟨w.heap.size + 1, 0, none⟩) hm1).trans b0
  have p1 := (hb7.cell (p := ⟨w.heap.size + 1, 1, none⟩) hm1).trans b1
  have p2 := (hb7.cell (p := ⟨w.heap.size + 1, 2, none⟩) hm1).trans b2
  have HB7 := Lib.hid (HB6.out.trans (hb7.mono HB6.out.size))
  have hl0 : w.heap.size < w7.heap.size := by have := hb7.size; omega
  have hl1 : w.heap.size + 1 < w7.heap.size := by have := hb7.size; omega
  clear a0 a1 a2 b0 b1 b2 hm0 hm1 hb7
  have T1 : Hid (∀ w', Below w7.heap.size w7 w' → Calls Tryd.prog 14 #[.agg #[.int .i64 ka, .string ta, sa]] w' fun e w'' => e = .returned (.bool rr) ∧ Below w7.heap.size w7 w'') := Lib.hid fun w' h => by
    have hh := HB7.out.trans (h.mono HB7.out.size)
    refine Calls.mono (HR1.out w' ((HSA.out.under hh).grow hh.size)) ?_
    rintro e w'' ⟨rfl, hb⟩
    exact ⟨rfl, h.trans (hb.mono h.size)⟩
  have T2 : Hid (∀ w', Below w7.heap.size w7 w' → Calls Tryd.prog 15 #[.agg #[.int .i64 ka, .string ta, sa]] w' fun e w'' => e = .returned (.bool rr) ∧ Below w7.heap.size w7 w'') := Lib.hid fun w' h => by
    have hh := HB7.out.trans (h.mono HB7.out.size)
    refine Calls.mono (HR2.out w' ((HSA.out.under hh).grow hh.size)) ?_
    rintro e w'' ⟨rfl, hb⟩
    exact ⟨rfl, h.trans (hb.mono h.size)⟩
  have T3 : Hid (∀ w', Below w7.heap.size w7 w' → Calls Tryd.prog 16 #[.agg #[.int .i64 ka, .string ta, sa], .agg #[.int .i64 kb, .string tb, sb]] w' fun e w'' => e = .returned (.bool ss) ∧ Below w7.heap.size w7 w'') := Lib.hid fun w' h => by
    have hh := HB7.out.trans (h.mono HB7.out.size)
    refine Calls.mono (HS1.out w' ((HSA.out.under hh).grow hh.size) ((HSB.out.under hh).grow hh.size)) ?_
    rintro e w'' ⟨rfl, hb⟩
    exact ⟨rfl, h.trans (hb.mono h.size)⟩
  have T4 : Hid (∀ w', Below w7.heap.size w7 w' → Calls Tryd.prog 17 #[.agg #[.int .i64 ka, .string ta, sa], .agg #[.int .i64 kb, .string tb, sb]] w' fun e w'' => e = .returned (.bool ss) ∧ Below w7.heap.size w7 w'') := Lib.hid fun w' h => by
    have hh := HB7.out.trans (h.mono HB7.out.size)
    refine Calls.mono (HS2.out w' ((HSA.out.under hh).grow hh.size) ((HSB.out.under hh).grow hh.size)) ?_
    rintro e w'' ⟨rfl, hb⟩
    exact ⟨rfl, h.trans (hb.mono h.size)⟩
  have T5 : Hid (∀ w', Below w7.heap.size w7 w' → Calls Tryd.prog 16 #[.agg #[.int .i64 ka, .string ta, sa], .agg #[.int .i64 ka, .string ta, sa]] w' fun e w'' => e = .returned (.bool true) ∧ Below w7.heap.size w7 w'') := Lib.hid fun w' h => by
    have hh := HB7.out.trans (h.mono HB7.out.size)
    refine Calls.mono (HS3.out w' ((HSA.out.under hh).grow hh.size) ((HSA.out.under hh).grow hh.size)) ?_
    rintro e w'' ⟨rfl, hb⟩
    exact ⟨rfl, h.trans (hb.mono h.size)⟩
  clear HR1 HR2 HS1 HS2 HS3 HP1 HP2 HLA HLB HA
  have hq1 : (ps.toList == ps.toList) = true := by simp
  have hq2 : (pe == pe) = true := by simp
  have hq3 : (rr == rr) = true := by simp
  have hq4 : (ss == ss) = true := by simp
  go_wp2_with fail
  go_region_held3 (fun w' => w'.cell? ⟨w.heap.size, 0, none⟩ = some (.int .i64 ka) ∧ w'.cell? ⟨w.heap.size, 1, none⟩ = some (.string ta) ∧ w'.cell? ⟨w.heap.size, 2, none⟩ = some sa ∧ w'.cell? ⟨w.heap.size + 1, 0, none⟩ = some (.int .i64 kb) ∧ w'.cell? ⟨w.heap.size + 1, 1, none⟩ = some (.string tb) ∧ w'.cell? ⟨w.heap.size + 1, 2, none⟩ = some sb)
    (first
      | exact ⟨d0, d1, d2, p0, p1, p2⟩
      | exact ⟨(hb8.cell (p := ⟨_, _, _⟩) hl0).trans d0, (hb8.cell (p := ⟨_, _, _⟩) hl0).trans d1, (hb8.cell (p := ⟨_, _, _⟩) hl0).trans d2, (hb8.cell (p := ⟨_, _, _⟩) hl1).trans p0, (hb8.cell (p := ⟨_, _, _⟩) hl1).trans p1, (hb8.cell (p := ⟨_, _, _⟩) hl1).trans p2⟩
      | go_keep)
    (first
      | ((go_at_call 14; refine (T1.out _ ?hb).mono ?_; (case hb => first | exact (Below.refl _ _).drew | exact Below.refl _ _ | exact hb8 | exact hb8.drew); rintro e w8 ⟨rfl, hb8⟩))
      | ((go_at_call 15; refine (T2.out _ ?hb).mono ?_; (case hb => first | exact (Below.refl _ _).drew | exact Below.refl _ _ | exact hb8 | exact hb8.drew); rintro e w8 ⟨rfl, hb8⟩))
      | ((go_at_call 16; refine (T3.out _ ?hb).mono ?_; (case hb => first | exact (Below.refl _ _).drew | exact Below.refl _ _ | exact hb8 | exact hb8.drew); rintro e w8 ⟨rfl, hb8⟩))
      | ((go_at_call 17; refine (T4.out _ ?hb).mono ?_; (case hb => first | exact (Below.refl _ _).drew | exact Below.refl _ _ | exact hb8 | exact hb8.drew); rintro e w8 ⟨rfl, hb8⟩))
      | ((go_at_call 16; refine (T5.out _ ?hb).mono ?_; (case hb => first | exact (Below.refl _ _).drew | exact Below.refl _ _ | exact hb8 | exact hb8.drew); rintro e w8 ⟨rfl, hb8⟩)))
  go_wp2
  go_ret
  exact ⟨rfl, HB7.out.trans (hb8.mono HB7.out.size)⟩

theorem prints_all (a b : Dat) (sa sb : Value) (w : World) (ha : okT a) (hb : okT b) (hsa : SliceOf w (· < w.heap.size) sa a.list) (hsb : SliceOf w (· < w.heap.size) sb b.list) :
    Calls Tryd.prog 4 #[.agg #[.int .i64 a.kind, .string a.text, sa], .agg #[.int .i64 b.kind, .string b.text, sb]] w fun e w' => e = .returned (.bool true) ∧ Below w.heap.size w w' := by
  cases hd : lightD a && lightD b
  · exact prints_dark a b sa sb w ha hb hsa hsb hd
  · rw [Bool.and_eq_true] at hd
    exact prints_lit a b sa sb w ha hb hsa hsb hd.1 hd.2
end Go.Proofs.YtghgjefobfaodaaDoor

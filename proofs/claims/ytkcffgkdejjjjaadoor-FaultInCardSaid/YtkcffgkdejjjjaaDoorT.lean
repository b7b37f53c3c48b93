import Derived.Test.YtkcffgkdejjjjaaDoorS
import Derived.Test.YtkcffgkdejjjjaaDoorShelf
import Derived.Lib.Hide
import Derived.Lib.AppendIntMem
namespace Go.Proofs.YtkcffgkdejjjjaaDoor
open Go.RowKit Go.Sort

/-- the table of powers holds tab -/
def TabW (w : World) (tab : Nat → Int) : Prop := 1 < w.heap.size ∧ ∀ i, i < 20 → w.cell? ⟨1, i, none⟩ = some (.int .u64 (tab i))
theorem TabW.below {w w' : World} {tab : Nat → Int} {B : Nat} (h : TabW w tab) (hB : 1 < B) (hb : Below B w w') : TabW w' tab :=
  ⟨Nat.lt_of_lt_of_le h.1 hb.size, fun i hi => (hb.cell (p := ⟨1, i, none⟩) hB).trans (h.2 i hi)⟩

/-- how many places numDigits says, the table holding tab -/
def nds (tab : Nat → Int) (u : Nat) : Nat := Lib.l10 (Lib.bitLen u) + if tab (Lib.l10 (Lib.bitLen u)) ≤ (u : Int) then 1 else 0
theorem l10_bound (u : Nat) (h1 : 1 ≤ u) (h2 : u < 18446744073709551616) : Lib.l10 (Lib.bitLen u) ≤ 19 ∧ u < 10 ^ (Lib.l10 (Lib.bitLen u) + 1) := by
  obtain ⟨a, b⟩ := Lib.numDigits_eq u h1 h2
  refine ⟨b, ?_⟩
  have h3 := Lib.lt_pow_nDigits u
  have : 10 ^ Lib.nDigits u ≤ 10 ^ (Lib.l10 (Lib.bitLen u) + 1) := Nat.pow_le_pow_right (by decide) (by rw [← a]; split <;> omega)
  omega
theorem nds_bound (tab : Nat → Int) (u : Nat) (h1 : 1 ≤ u) (h2 : u < 18446744073709551616) : nds tab u ≤ 20 ∧ u < 10 ^ (nds tab u + 1) := by
  obtain ⟨a, b⟩ := l10_bound u h1 h2
  unfold nds
  refine ⟨by split <;> omega, Nat.lt_of_lt_of_le b (Nat.pow_le_pow_right (by decide) (by omega))⟩

set_option maxRecDepth 100000 in
set_option maxHeartbeats 1000000 in
theorem numDigits_any (tab : Nat → Int) (u : Nat) (h1 : 1 ≤ u) (h2 : u < 18446744073709551616) (w : World) (ht : TabW w tab) :
    Calls Tryd.prog 40 #[.int .u64 u] w fun e w' => e = .returned (.int .i64 (nds tab u)) ∧ w = w' := by
  obtain ⟨h19, _⟩ := l10_bound u h1 h2
  have hL : Lib.bitLen u ≤ 64 := Lib.bitLen_le u 64 (Nat.le_refl _) h2
  have hto : ((u : Int)).toNat = u := by omega
  have hcell := ht.2 (Lib.l10 (Lib.bitLen u)) (by omega)
  have hnd : nds tab u = Lib.l10 (Lib.bitLen u) + if tab (Lib.l10 (Lib.bitLen u)) ≤ (u : Int) then 1 else 0 := rfl
  generalize nds tab u = N at hnd ⊢
  generalize hq : Lib.l10 (Lib.bitLen u) = q at hnd h19 hcell
  generalize tab q = T at hnd hcell
  have h20 : q < 20 := by omega
  have Hnd := Lib.hid hnd
  clear hnd ht
  go_enter Tryd.func40, Tryd.ntmps40
  go_wp2_with (first
    | (go_at_call 44; refine (Tryd.bits_Len64 _ _ (by omega) (by omega)).mono ?_; rintro e w' ⟨rfl, rfl⟩)
    | (go_at_call 43; refine (Tryd.internal_strconv_log10Pow2 _ (by first | exact hL | (rw [hto]; exact hL)) _).mono ?_; rintro e w' ⟨rfl, rfl⟩)
    | (go_at_call 45; refine (Tryd.internal_strconv_bool2_int _ _).mono ?_; rintro e w' ⟨rfl, rfl⟩))
  all_goals go_ret
  all_goals (
    refine ⟨?_, rfl⟩
    have hnd := Hnd.out
    congr 2
    split at hnd <;> simp_all <;> omega)

/-- the row that formatBase10 leaves, as a list -/
def flist (n u : Nat) : List UInt8 := (List.range n).map (fb n u)
theorem flist_length (n u : Nat) : (flist n u).length = n := by simp [flist]
theorem flist_at {n u : Nat} {dk : Array UInt8} (h : Full n u dk) (j : Nat) (hj : j < (flist n u).length) : (flist n u)[j] = dk[j]! := by
  rw [flist_length] at hj
  rw [h.2 j hj]; simp [flist]

/-- what FormatInt says of n at base 10, the table holding tab, where n is not one of 0 to 99 -/
def ftext (tab : Nat → Int) (n : Int) : List UInt8 := if n < 0 then 45 :: flist (nds tab n.natAbs) n.natAbs else flist (nds tab n.natAbs) n.natAbs

set_option maxRecDepth 100000 in
set_option maxHeartbeats 4000000 in
theorem formatInt_pos (tab : Nat → Int) (u : Nat) (hu : 100 ≤ u) (hu63 : u < 9223372036854775808) (w : World) (ht : TabW w tab) :
    Calls Tryd.prog 38 #[.int .i64 u, .int .i64 10] w fun e w' => e = .returned (.string ⟨(ftext tab u).toArray⟩) ∧ ∃ k os, w' = grow (w.drewN k) os := by
  have hu1 : 1 ≤ u := by omega
  have hu64 : u < 18446744073709551616 := by omega
  obtain ⟨hnd20, hpow⟩ := nds_bound tab u hu1 hu64
  have hft : ftext tab u = flist (nds tab u) u := by unfold ftext; rw [if_neg (by omega)]; rfl
  have hND := numDigits_any tab u hu1 hu64 (w.alloc (.cells Lib.zeros24 93)) (ht.below (B := w.heap.size) ht.1 ((Below.refl _ _).alloc (Nat.le_refl _) _))
  generalize nds tab u = N at *
  have hb3 : N ≤ 23 := by omega
  have hal : Tryd.prog.arrayLen 93 = 24 := by simp [Program.arrayLen, Tryd.underlying93]
  have hsl1 : ∀ W, (Instr.sliceAt 93 (.pointer (some ⟨w.heap.size, 0, none⟩)) (some (.int .i64 1)) (some (.int .i64 (1 + (N : Int)))) none).run Tryd.prog W = .ok (.slice (some ⟨w.heap.size, 1, none⟩) N 23) W := fun W => by
    rw [run_sliceAt_array_lh W 93 ⟨w.heap.size, 0, none⟩ (by simp [Program.arrayLen, Program.elem, Tryd.underlying93]) .i64 .i64 1 (1 + (N : Int)) (by omega) (by omega) (by rw [hal]; omega)]
    go_simp
    omega
  have hH0 := Lib.holds_zero w 93 N (by omega)
  have hfmt := formatBase10_any w.heap.size 1 23 u (Array.replicate N 0) (w.alloc (.cells Lib.zeros24 93)) hH0 (by rw [Array.size_replicate]; exact hpow) hu64 (by rw [Array.size_replicate]; omega)
  rw [Array.size_replicate] at hfmt
  have HH0 := Lib.hid hH0
  have HF := Lib.hid hft
  have HN := Lib.hid hND
  clear hH0 hal hft hND ht
  go_enter Tryd.func38, Tryd.ntmps38
  go_wp2_with (go_at_call 40; refine HN.out.mono ?_; rintro e w' ⟨rfl, rfl⟩)
  go_at_call 41
  refine hfmt.mono ?_
  rintro e w' ⟨rfl, k, dk, rfl, hF⟩
  have hcv : (convert 45 9 (.slice (some ⟨w.heap.size, 1, none⟩) N 23)).run Tryd.prog ((putRow (fun (b : UInt8) => Value.int .u8 (b.toNat : Int)) (w.alloc (.cells Lib.zeros24 93)) w.heap.size 1 dk).drewN k) = .ok (.string ⟨(flist N u).toArray⟩) ((putRow (fun (b : UInt8) => Value.int .u8 (b.toNat : Int)) (w.alloc (.cells Lib.zeros24 93)) w.heap.size 1 dk).drewN k) := by
    have h := run_convert_bytes_back (P := Tryd.prog) ((putRow (fun (b : UInt8) => Value.int .u8 (b.toNat : Int)) (w.alloc (.cells Lib.zeros24 93)) w.heap.size 1 dk).drewN k) 45 9 5 ⟨w.heap.size, 1, none⟩ 23 (flist N u) Tryd.underlying45 Tryd.underlying5 Tryd.underlying9 (fun j hj => by
      rw [flist_at hF j hj, Lib.add_plain, World.cell?_drewN]
      exact cell?_putRow (fun (b : UInt8) => Value.int .u8 (b.toNat : Int)) _ w.heap.size 1 _ dk HH0.out (by rw [hF.1, Array.size_replicate]) j (by rw [hF.1]; rw [flist_length] at hj; exact hj))
    rw [flist_length] at h
    exact h
  go_wp2
  go_ret
  obtain ⟨os, eo⟩ := Lib.fin_pos w (.cells Lib.zeros24 93) dk k
  refine ⟨?_, k, os, eo⟩
  rw [HF.out]
  rfl

set_option maxRecDepth 100000 in
set_option maxHeartbeats 4000000 in
theorem formatInt_neg (tab : Nat → Int) (u : Nat) (hu1 : 1 ≤ u) (hu63 : u ≤ 9223372036854775808) (w : World) (ht : TabW w tab) :
    Calls Tryd.prog 38 #[.int .i64 (-(u : Int)), .int .i64 10] w fun e w' => e = .returned (.string ⟨(ftext tab (-(u : Int))).toArray⟩) ∧ ∃ k os, w' = grow (w.drewN k) os := by
  have hu64 : u < 18446744073709551616 := by omega
  obtain ⟨hnd20, hpow⟩ := nds_bound tab u hu1 hu64
  have hft : ftext tab (-(u : Int)) = 45 :: flist (nds tab u) u := by unfold ftext; rw [if_pos (by omega)]; simp
  have hND := numDigits_any tab u hu1 hu64 (w.alloc (.cells Lib.zeros24 93)) (ht.below (B := w.heap.size) ht.1 ((Below.refl _ _).alloc (Nat.le_refl _) _))
  generalize nds tab u = N at *
  have hwr : IntKind.u64.wrap (-IntKind.u64.wrap (-(u : Int))) = (u : Int) := by rw [IntKind.wrap_u64, IntKind.wrap_u64]; omega
  have hb3 : N ≤ 23 := by omega
  have hal : Tryd.prog.arrayLen 93 = 24 := by simp [Program.arrayLen, Tryd.underlying93]
  have hsl1 : ∀ W, (Instr.sliceAt 93 (.pointer (some ⟨w.heap.size, 0, none⟩)) (some (.int .i64 1)) (some (.int .i64 (1 + (N : Int)))) none).run Tryd.prog W = .ok (.slice (some ⟨w.heap.size, 1, none⟩) N 23) W := fun W => by
    rw [run_sliceAt_array_lh W 93 ⟨w.heap.size, 0, none⟩ (by simp [Program.arrayLen, Program.elem, Tryd.underlying93]) .i64 .i64 1 (1 + (N : Int)) (by omega) (by omega) (by rw [hal]; omega)]
    go_simp
    omega
  have hH0 := Lib.holds_zero w 93 N (by omega)
  have hfmt := formatBase10_any w.heap.size 1 23 u (Array.replicate N 0) (w.alloc (.cells Lib.zeros24 93)) hH0 (by rw [Array.size_replicate]; exact hpow) hu64 (by rw [Array.size_replicate]; omega)
  rw [Array.size_replicate] at hfmt
  have HH0 := Lib.hid hH0
  have HF := Lib.hid hft
  have HN := Lib.hid hND
  clear hH0 hal hft hND ht
  go_enter Tryd.func38, Tryd.ntmps38
  go_wp2_with (go_at_call 40; refine HN.out.mono ?_; rintro e w' ⟨rfl, rfl⟩)
  go_at_call 41
  refine hfmt.mono ?_
  rintro e w' ⟨rfl, k, dk, rfl, hF⟩
  have hc0 : ((putRow (fun (b : UInt8) => Value.int .u8 (b.toNat : Int)) (w.alloc (.cells Lib.zeros24 93)) w.heap.size 1 dk).drewN k).cell? ⟨w.heap.size, 0, none⟩ = some (.int .u8 0) := by
    rw [World.cell?_drewN, cell?_putRow_other _ _ _ _ _ _ (Or.inr (Or.inl (Nat.zero_lt_one))), World.cell?_alloc_new]
    exact Lib.zeros24_at 0 (by omega)
  have hf0 : ((putRow (fun (b : UInt8) => Value.int .u8 (b.toNat : Int)) (w.alloc (.cells Lib.zeros24 93)) w.heap.size 1 dk).drewN k).frozen? ⟨w.heap.size, 0, none⟩ = false := by
    rw [World.frozen?_drewN, frozen?_putRow]
    exact World.frozen?_alloc_new _ _ _ _
  have hal : Tryd.prog.arrayLen 93 = 24 := by simp [Program.arrayLen, Tryd.underlying93]
  have hsl2 : ∀ W, (Instr.sliceAt 93 (.pointer (some ⟨w.heap.size, 0, none⟩)) none (some (.int .i64 (1 + (N : Int)))) none).run Tryd.prog W = .ok (.slice (some ⟨w.heap.size, 0, none⟩) (1 + N) 24) W := fun W => by
    rw [run_sliceAt_array_h W 93 ⟨w.heap.size, 0, none⟩ (by simp [Program.arrayLen, Program.elem, Tryd.underlying93]) .i64 (1 + (N : Int)) (by omega) (by rw [hal]; omega)]
    go_simp
    omega
  clear hal
  have hcv : (convert 45 9 (.slice (some ⟨w.heap.size, 0, none⟩) (1 + N) 24)).run Tryd.prog (((putRow (fun (b : UInt8) => Value.int .u8 (b.toNat : Int)) (w.alloc (.cells Lib.zeros24 93)) w.heap.size 1 dk).drewN k).setCell ⟨w.heap.size, 0, none⟩ (.int .u8 45)) = .ok (.string ⟨(45 :: flist N u).toArray⟩) (((putRow (fun (b : UInt8) => Value.int .u8 (b.toNat : Int)) (w.alloc (.cells Lib.zeros24 93)) w.heap.size 1 dk).drewN k).setCell ⟨w.heap.size, 0, none⟩ (.int .u8 45)) := by
    have h := run_convert_bytes_back (P := Tryd.prog) (((putRow (fun (b : UInt8) => Value.int .u8 (b.toNat : Int)) (w.alloc (.cells Lib.zeros24 93)) w.heap.size 1 dk).drewN k).setCell ⟨w.heap.size, 0, none⟩ (.int .u8 45)) 45 9 5 ⟨w.heap.size, 0, none⟩ 24 (45 :: flist N u) Tryd.underlying45 Tryd.underlying5 Tryd.underlying9 (fun j hj => by
      rw [Lib.add_plain]
      cases j with
      | zero => exact World.cell?_setCell_same _ _ _ hc0
      | succ i =>
        have hi : i < (flist N u).length := by simpa using hj
        rw [World.cell?_setCell_other _ _ _ _ (by simp), List.getElem_cons_succ, flist_at hF i hi, World.cell?_drewN, show 0 + (i + 1) = 1 + i by omega]
        exact cell?_putRow (fun (b : UInt8) => Value.int .u8 (b.toNat : Int)) _ w.heap.size 1 _ dk HH0.out (by rw [hF.1, Array.size_replicate]) i (by rw [hF.1]; rw [flist_length] at hi; exact hi))
    rw [List.length_cons, flist_length, Nat.add_comm] at h
    exact h
  go_wp2
  go_ret
  obtain ⟨os, eo⟩ := Lib.fin_neg w (.cells Lib.zeros24 93) dk k (.int .u8 45)
  refine ⟨?_, k, os, eo⟩
  rw [HF.out]
  rfl
end Go.Proofs.YtkcffgkdejjjjaaDoor

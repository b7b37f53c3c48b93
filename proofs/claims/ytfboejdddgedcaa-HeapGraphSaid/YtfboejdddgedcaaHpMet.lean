import Derived.Test.YtfboejdddgedcaaHpA
import Derived.ProofKit
import Derived.OpenShut
import Derived.Deep.Slices
import Derived.Deep.Fields
namespace Go.Proofs.Ytfboejdddgedcaa
open Go.ChangeShapes Go.WideShapes Go.ChangeAt Go.RowKit

theorem rowOwn : ownKnob Try.prog.godebug = none := by kernel_rfl
theorem rowLaidOut : laidOutB Try.prog = true := by kernel_rfl
theorem u64CellsOf : Try.prog.cellsOf 32 = 1 := by kernel_rfl
theorem intCellsOf : Try.prog.cellsOf 3 = 1 := by kernel_rfl
theorem wordsCellsOf : Try.prog.cellsOf 31 = 1 := by kernel_rfl
theorem opCellsOf : Try.prog.cellsOf 34 = 7 := by kernel_rfl
theorem int_rng {n : Int} (h : (Lit.int .i64 n).wf = true) : -9223372036854775808 ≤ n ∧ n ≤ 9223372036854775807 := by
  simp [Lit.wf, IntKind.min, IntKind.max, IntKind.bits, IntKind.signed] at h
  omega
theorem u64_rng {n : Int} (h : (Lit.int .u64 n).wf = true) : 0 ≤ n ∧ n < 18446744073709551616 := by
  simp [Lit.wf, IntKind.min, IntKind.max, IntKind.bits, IntKind.signed] at h
  omega
/-- an argument that is a number -/
theorem int_of_arg {H : Type} {enc : TypeId × Value → H} {W : World} {base : Nat} {v : Value} {d : DataW H} {p : List MemPlace} (hv : Value.okWide Try.prog W .any base 3 v)
    (h : DataW.Trod enc Try.prog W 0 (fun _ => true) true 3 v d p) : ∃ n : Int, v = .int .i64 n ∧ (-9223372036854775808 ≤ n ∧ n ≤ 9223372036854775807) := by
  obtain ⟨fuel, hf⟩ := h
  obtain ⟨n, hc, _, hw⟩ := DataW.trod_int Try.underlying3 hf
  obtain ⟨n', rfl⟩ := okWide_int Try.underlying3 hv
  simp only [Value.cells, List.cons.injEq, Value.int.injEq, true_and, and_true] at hc
  exact ⟨n', rfl, by rw [hc]; exact int_rng hw⟩
/-- an argument that is a word -/
theorem u64_of_arg {H : Type} {enc : TypeId × Value → H} {W : World} {base : Nat} {v : Value} {d : DataW H} {p : List MemPlace} (hv : Value.okWide Try.prog W .any base 32 v)
    (h : DataW.Trod enc Try.prog W 0 (fun _ => true) true 32 v d p) : ∃ n : Nat, v = .int .u64 n ∧ n < 18446744073709551616 := by
  obtain ⟨fuel, hf⟩ := h
  obtain ⟨n, hc, _, hw⟩ := DataW.trod_int Try.underlying32 hf
  obtain ⟨n', rfl⟩ := okWide_int Try.underlying32 hv
  simp only [Value.cells, List.cons.injEq, Value.int.injEq, true_and, and_true] at hc
  have hr := u64_rng hw
  exact ⟨n'.toNat, by rw [hc, Int.toNat_of_nonneg hr.1], by omega⟩
/-- a row of words, as it is read -/
theorem words_cells {H : Type} {enc : TypeId × Value → H} {W : World} {n : Nat} {cs : List Value} {x : DataW H × List MemPlace}
    (hf : DataW.trod enc Try.prog W 0 (fun _ => true) true n 31 cs = some x) : ∃ v l, cs = [v] ∧ WdS W (· < W.heap.size) v l := by
  rcases open_ints Try.underlying31 Try.underlying32 u64CellsOf hf with ⟨rfl, _⟩ | ⟨a, len, cap, zs, rfl, _, hle, hcm, hzs, _, hcell, hwf⟩
  · exact ⟨_, [], rfl, .mkNil _ _⟩
  · by_cases h0 : len = 0
    · subst h0; exact ⟨_, [], rfl, .mkNil _ _⟩
    rw [if_pos rfl] at hzs
    have hlz : (zs.take len).length = len := by rw [List.length_take, hzs]; omega
    have hnat : ∀ j, j < len → ((((zs.take len).map Int.toNat).getD j 0 : Nat) : Int) = zs.getD j 0 ∧ zs.getD j 0 < 18446744073709551616 := by
      intro j hj
      have hjz : j < zs.length := by omega
      have hm := u64_rng (hwf _ (List.getElem_mem hjz))
      have e1 : zs.getD j 0 = zs[j] := by rw [List.getD_eq_getElem?_getD, List.getElem?_eq_getElem hjz, Option.getD_some]
      have e2 : ((zs.take len).map Int.toNat).getD j 0 = zs[j].toNat := by
        rw [List.getD_eq_getElem?_getD, List.getElem?_map, List.getElem?_take_of_lt hj, List.getElem?_eq_getElem hjz]
        rfl
      rw [e1, e2]
      exact ⟨Int.toNat_of_nonneg hm.1, hm.2⟩
    obtain ⟨b, off, spot⟩ := a
    have hc0 := hcell 0 (by omega)
    have hspot : spot = none := by simpa [Addr.add] using World.cell?_spot hc0
    subst hspot
    have e : ∀ j, (⟨b, off, none⟩ : Addr).add j = ⟨b, off + j, none⟩ := fun j => by unfold Addr.add; split <;> simp_all
    have hlen : ((zs.take len).map Int.toNat).length = len := by rw [List.length_map, hlz]
    refine ⟨_, (zs.take len).map Int.toNat, rfl, .mkSome b off cap len _ ?_ hlen.symm ⟨by omega, hle⟩ (fun j hj => ?_) (fun x hx => ?_)⟩
    · rw [e] at hc0; exact World.block_lt_of_cell? W _ hc0
    · rw [hlen] at hj
      have hcj := hcell j (by omega)
      rw [e] at hcj
      rw [hcj, (hnat j hj).1]
    · obtain ⟨j, hj, rfl⟩ := List.getElem_of_mem hx
      rw [hlen] at hj
      have h1 := hnat j hj
      have h2 : ((zs.take len).map Int.toNat).getD j 0 = ((zs.take len).map Int.toNat)[j] := by
        rw [List.getD_eq_getElem?_getD, List.getElem?_eq_getElem (by rw [hlen]; exact hj)]; rfl
      rw [h2] at h1
      omega
/-- an argument that is a row of words -/
theorem words_of_arg {H : Type} {enc : TypeId × Value → H} {W : World} {base : Nat} {v : Value} {d : DataW H} {p : List MemPlace} (hv : Value.okWide Try.prog W .any base 31 v)
    (h : DataW.Trod enc Try.prog W 0 (fun _ => true) true 31 v d p) : ∃ l, WdS W (· < W.heap.size) v l := by
  obtain ⟨fuel, hf⟩ := h
  obtain ⟨a, len, cap, rfl⟩ := okWide_slice Try.underlying31 hv
  obtain ⟨u, l, hc, hl⟩ := words_cells hf
  have : Value.slice a len cap = u := by simpa [Value.cells] using hc
  subst this
  exact ⟨l, hl⟩
/-- one call of the law -/
structure Op8 where
  do_ : Int
  kind : Int
  i : Int
  w : Nat
  x : Nat
  by_ : Nat
  f : List Nat
def op0 : Op8 := ⟨0, 0, 0, 0, 0, 0, []⟩
/-- a call in memory -/
structure OpAt (W : World) (ok : Nat → Prop) (b off : Nat) (o : Op8) (fv : Value) : Prop where
  c0 : W.cell? ⟨b, off, none⟩ = some (.int .i64 o.do_)
  c1 : W.cell? ⟨b, off + 1, none⟩ = some (.int .i64 o.kind)
  c2 : W.cell? ⟨b, off + 2, none⟩ = some (.int .i64 o.i)
  c3 : W.cell? ⟨b, off + 3, none⟩ = some (.int .u64 (o.w : Nat))
  c4 : W.cell? ⟨b, off + 4, none⟩ = some (.int .u64 (o.x : Nat))
  c5 : W.cell? ⟨b, off + 5, none⟩ = some (.int .u64 (o.by_ : Nat))
  c6 : W.cell? ⟨b, off + 6, none⟩ = some fv
  fs : WdS W ok fv o.f
  lt : o.w < 18446744073709551616 ∧ o.x < 18446744073709551616 ∧ o.by_ < 18446744073709551616
/-- a row of calls -/
inductive OpS (W : World) (ok : Nat → Prop) : Value → List Op8 → Prop
  | mkNil (a : Option Addr) (c : Nat) : OpS W ok (.slice a 0 c) []
  | mkSome (b off cap n : Nat) (l : List Op8) : ok b → n = l.length → n ≤ maxLen ∧ n ≤ cap → (∀ j, j < l.length → ∃ fv, OpAt W ok b (off + j * 7) (l.getD j op0) fv) → OpS W ok (.slice (some ⟨b, off, none⟩) n cap) l

set_option maxRecDepth 100000 in
/-- a call's seven cells -/
theorem op_cells {H : Type} {enc : TypeId × Value → H} {W : World} {n : Nat} {cs : List Value} {x : DataW H × List MemPlace}
    (h : DataW.trod enc Try.prog W 0 (fun _ => true) true n 34 cs = some x) : ∃ (o : Op8) (fv : Value), cs = [.int .i64 o.do_, .int .i64 o.kind, .int .i64 o.i, .int .u64 (o.w : Nat), .int .u64 (o.x : Nat), .int .u64 (o.by_ : Nat), fv] ∧ WdS W (· < W.heap.size) fv o.f ∧
      (o.w < 18446744073709551616 ∧ o.x < 18446744073709551616 ∧ o.by_ < 18446744073709551616) := by
  obtain ⟨xs, n', rfl, _, hlen, hxl, hfld⟩ := DataW.trod_struct Try.underlying34 h
  rw [opCellsOf] at hlen
  match cs, hlen with
  | [x0, x1, x2, x3, x4, x5, x6], _ =>
    have hxl7 : xs.length = 7 := hxl
    match xs, hxl7 with
    | [y0, y1, y2, y3, y4, y5, y6], _ =>
      have f0 : DataW.trod enc Try.prog W 0 (fun _ => true) true n' 3 (([x0, x1, x2, x3, x4, x5, x6].drop 0).take (Try.prog.cellsOf 3)) = some y0 := hfld 0 _ rfl
      have f1 : DataW.trod enc Try.prog W 0 (fun _ => true) true n' 3 (([x0, x1, x2, x3, x4, x5, x6].drop 1).take (Try.prog.cellsOf 3)) = some y1 := hfld 1 _ rfl
      have f2 : DataW.trod enc Try.prog W 0 (fun _ => true) true n' 3 (([x0, x1, x2, x3, x4, x5, x6].drop 2).take (Try.prog.cellsOf 3)) = some y2 := hfld 2 _ rfl
      have f3 : DataW.trod enc Try.prog W 0 (fun _ => true) true n' 32 (([x0, x1, x2, x3, x4, x5, x6].drop 3).take (Try.prog.cellsOf 32)) = some y3 := hfld 3 _ rfl
      have f4 : DataW.trod enc Try.prog W 0 (fun _ => true) true n' 32 (([x0, x1, x2, x3, x4, x5, x6].drop 4).take (Try.prog.cellsOf 32)) = some y4 := hfld 4 _ rfl
      have f5 : DataW.trod enc Try.prog W 0 (fun _ => true) true n' 32 (([x0, x1, x2, x3, x4, x5, x6].drop 5).take (Try.prog.cellsOf 32)) = some y5 := hfld 5 _ rfl
      have f6 : DataW.trod enc Try.prog W 0 (fun _ => true) true n' 31 (([x0, x1, x2, x3, x4, x5, x6].drop 6).take (Try.prog.cellsOf 31)) = some y6 := hfld 6 _ rfl
      rw [intCellsOf] at f0 f1 f2
      rw [u64CellsOf] at f3 f4 f5
      rw [wordsCellsOf] at f6
      obtain ⟨k0, e0, _, _⟩ := DataW.trod_int Try.underlying3 f0
      obtain ⟨k1, e1, _, _⟩ := DataW.trod_int Try.underlying3 f1
      obtain ⟨k2, e2, _, _⟩ := DataW.trod_int Try.underlying3 f2
      obtain ⟨k3, e3, _, w3⟩ := DataW.trod_int Try.underlying32 f3
      obtain ⟨k4, e4, _, w4⟩ := DataW.trod_int Try.underlying32 f4
      obtain ⟨k5, e5, _, w5⟩ := DataW.trod_int Try.underlying32 f5
      obtain ⟨v6, l6, e6, hl6⟩ := words_cells f6
      have r3 := u64_rng w3
      have r4 := u64_rng w4
      have r5 := u64_rng w5
      obtain rfl : x0 = .int .i64 k0 := by simpa using e0
      obtain rfl : x1 = .int .i64 k1 := by simpa using e1
      obtain rfl : x2 = .int .i64 k2 := by simpa using e2
      obtain rfl : x3 = .int .u64 k3 := by simpa using e3
      obtain rfl : x4 = .int .u64 k4 := by simpa using e4
      obtain rfl : x5 = .int .u64 k5 := by simpa using e5
      obtain rfl : x6 = v6 := by simpa using e6
      refine ⟨⟨k0, k1, k2, k3.toNat, k4.toNat, k5.toNat, l6⟩, x6, ?_, hl6, ?_⟩
      · dsimp only
        rw [Int.toNat_of_nonneg r3.1, Int.toNat_of_nonneg r4.1, Int.toNat_of_nonneg r5.1]
      · dsimp only
        omega

set_option maxRecDepth 100000 in
/-- an argument that is a row of calls -/
theorem ops_of_arg {H : Type} {enc : TypeId × Value → H} {W : World} {base : Nat} {v : Value} {d : DataW H} {p : List MemPlace} (hv : Value.okWide Try.prog W .any base 22 v)
    (h : DataW.Trod enc Try.prog W 0 (fun _ => true) true 22 v d p) : ∃ l, OpS W (· < W.heap.size) v l := by
  obtain ⟨fuel, hf⟩ := h
  obtain ⟨a0, len0, cap0, rfl⟩ := okWide_slice Try.underlying22 hv
  rcases DataW.trod_slice Try.underlying22 hf with ⟨hc, _⟩ | ⟨a, len, cap, elems, rest, m, _, hc, _, _, hlc, hcm, hel, hi, _⟩
  · have hc1 : Value.slice a0 len0 cap0 = .slice none 0 0 := by simpa [Value.cells] using hc
    cases hc1
    exact ⟨[], .mkNil _ _⟩
  · have hc1 : Value.slice a0 len0 cap0 = .slice (some a) len cap := by simpa [Value.cells] using hc
    cases hc1
    by_cases h0 : len0 = 0
    · subst h0; exact ⟨[], .mkNil _ _⟩
    have key : ∀ i, i < len0 → ∃ (o : Op8) (fv : Value), (W.cell? (a.add (i * 7)) = some (.int .i64 o.do_) ∧ W.cell? (a.add (i * 7 + 1)) = some (.int .i64 o.kind) ∧ W.cell? (a.add (i * 7 + 2)) = some (.int .i64 o.i) ∧ W.cell? (a.add (i * 7 + 3)) = some (.int .u64 (o.w : Nat)) ∧ W.cell? (a.add (i * 7 + 4)) = some (.int .u64 (o.x : Nat)) ∧ W.cell? (a.add (i * 7 + 5)) = some (.int .u64 (o.by_ : Nat)) ∧ W.cell? (a.add (i * 7 + 6)) = some fv) ∧
        WdS W (· < W.heap.size) fv o.f ∧ (o.w < 18446744073709551616 ∧ o.x < 18446744073709551616 ∧ o.by_ < 18446744073709551616) := by
      intro i hil
      have hb := hi i hil
      have hil' : i < elems.length := by omega
      rw [List.getElem?_eq_getElem hil'] at hb
      obtain ⟨cs', hc, ht⟩ := Option.bind_eq_some_iff.1 hb
      rw [opCellsOf] at hc
      obtain ⟨_, _, hat⟩ := World.cells?_some hc
      obtain ⟨o, fv, rfl, hfv, hlt⟩ := op_cells ht
      have g0 := hat 0 (by omega)
      have g1 := hat 1 (by omega)
      have g2 := hat 2 (by omega)
      have g3 := hat 3 (by omega)
      have g4 := hat 4 (by omega)
      have g5 := hat 5 (by omega)
      have g6 := hat 6 (by omega)
      rw [Go.Deep.add_add] at g0 g1 g2 g3 g4 g5 g6
      exact ⟨o, fv, ⟨g0, g1, g2, g3, g4, g5, g6⟩, hfv, hlt⟩
    obtain ⟨b, off, spot⟩ := a
    obtain ⟨t0, _, hc0, _⟩ := key 0 (by omega)
    have hspot : spot = none := by simpa [Addr.add] using World.cell?_spot hc0.1
    subst hspot
    have e : ∀ j, (⟨b, off, none⟩ : Addr).add j = ⟨b, off + j, none⟩ := fun j => by unfold Addr.add; split <;> simp_all
    have key2 : ∀ i : Fin len0, ∃ o : Op8, ∃ fv, OpAt W (· < W.heap.size) b (off + i.1 * 7) o fv := by
      intro i
      obtain ⟨o, fv, ⟨h1, h2, h3, h4, h5, h6, h7⟩, h8, h9⟩ := key i.1 i.2
      rw [e] at h1 h2 h3 h4 h5 h6 h7
      exact ⟨o, fv, h1, h2, h3, h4, h5, h6, h7, h8, h9⟩
    let f : Fin len0 → Op8 := fun i => Classical.choose (key2 i)
    have hf2 : ∀ i, _ := fun i => Classical.choose_spec (key2 i)
    refine ⟨List.ofFn f, .mkSome b off cap0 len0 _ ?_ (by simp) ⟨by omega, hlc⟩ fun j hj => ?_⟩
    · have := hc0.1; rw [e] at this; exact World.block_lt_of_cell? W _ this
    · rw [List.length_ofFn] at hj
      have : (List.ofFn f).getD j op0 = f ⟨j, hj⟩ := by simp [List.getD_eq_getElem?_getD, hj]
      rw [this]
      exact hf2 ⟨j, hj⟩
end Go.Proofs.Ytfboejdddgedcaa

import Derived.Test.YtgjkobkcmgliaaaTyCl
import Derived.Deep.RegionHeld3
namespace Go.Proofs.Ytgjkobkcmgliaaa
open Go.RowKit

theorem Stay.mono {N M : Nat → Prop} {w w' : World} (h : Stay N w w') (hNM : ∀ b, N b → M b) : Stay M w w' := ⟨h.os, h.tape, h.output, h.size, fun k hk hm => h.block k hk fun hn => hm (hNM k hn)⟩
/-- what is known of a function value that makes a type of two -/
structure FnT (N : Nat → Prop) (St : Nat → World → Prop) (k : Nat) (lb : Array Value) (W0 : World) (R : Ty → Ty → Prop) (J : Ty → Ty → Ty) (cost : Ty → Ty → Nat) (lim : Nat) : Prop where
  keep : ∀ (n : Nat) (w w' : World), St n w → Below w.heap.size w w' → St n w'
  enter : ∀ (args : Array Value) (w : World), (callFunc k args).run Try.prog w = .ok (.enter k args) w
  call : ∀ (M : Nat → Prop) (w : World) (vx vy : Value) (x y : Ty) (n : Nat), (∀ b, N b → M b) → (∀ b, M b → b < w.heap.size) → Stay N W0 w → St n w → n + cost x y ≤ lim → R x y → TyVN M w vx x → TyVN M w vy y →
    Calls Try.prog k (#[vx, vy] ++ lb) w fun e w' => (∃ v, e = .returned v ∧ TyVN M w' v (J x y)) ∧ Stay N w w' ∧ ∃ n', n' ≤ n + cost x y ∧ St n' w'
def joinPairsP (x y : Ty) : Int := if y.pair = 0 then x.pair else if x.pair = 0 then y.pair else if x.pair = 2 ∧ y.pair = 2 then 2 else 1
def joinPairsL (J : Ty → Ty → Ty) (x y : Ty) : List Ty := if y.pair = 0 then x.pairs else if x.pair = 0 then y.pairs else if x.pair = 2 ∧ y.pair = 2 then [J (carT x) (carT y)] else [J (carT x) (carT y), J (cdrT x) (cdrT y)]
def joinPairsC (cost : Ty → Ty → Nat) (x y : Ty) : Nat := if x.pair = 0 ∨ y.pair = 0 then 0 else cost (carT x) (carT y) + (if x.pair = 2 ∧ y.pair = 2 then 0 else cost (cdrT x) (cdrT y))
/-- a number and a slice of types handed back -/
def PairPost (M N : Nat → Prop) (St : Nat → World → Prop) (p : Int) (l : List Ty) (n : Nat) (w : World) (e : Ending) (w' : World) : Prop := (∃ v, e = .returned (.tuple #[.int .i64 p, v]) ∧ TyS w' (Lo M w') v l) ∧ Stay N w w' ∧ ∃ n', n' ≤ n ∧ St n' w'
/-- a slice of two types, just laid -/
theorem TyS.two_alloc {M : Nat → Prop} {w : World} {a a' : Bool} {f f' p p' k k' : Int} {pv pv' fv fv' : Value} {t u : Ty} (hM : ∀ b, M b → b < w.heap.size)
    (h1 : TyVN M w (.agg #[.bool a, .int .i64 f, .int .i64 p, pv, .int .i64 k, fv]) t) (h2 : TyVN M w (.agg #[.bool a', .int .i64 f', .int .i64 p', pv', .int .i64 k', fv']) u) :
    TyS (w.alloc (.cells #[.bool a, .int .i64 f, .int .i64 p, pv, .int .i64 k, fv, .bool a', .int .i64 f', .int .i64 p', pv', .int .i64 k', fv'] 49))
      (Lo M (w.alloc (.cells #[.bool a, .int .i64 f, .int .i64 p, pv, .int .i64 k, fv, .bool a', .int .i64 f', .int .i64 p', pv', .int .i64 k', fv'] 49))) (.slice (some ⟨w.heap.size, 0, none⟩) 2 2) [t, u] := by
  obtain ⟨r1, e1, h1⟩ := h1
  obtain ⟨r2, e2, h2⟩ := h2
  obtain ⟨ra, rf, rp, rpv, rk, rfv⟩ := r1
  obtain ⟨sa, sf, sp, spv, sk, sfv⟩ := r2
  simp only [rawV, Value.agg.injEq, Array.mk.injEq, List.cons.injEq, Value.bool.injEq, Value.int.injEq, true_and, and_true] at e1 e2
  obtain ⟨rfl, rfl, rfl, rfl, rfl, rfl⟩ := e1
  obtain ⟨rfl, rfl, rfl, rfl, rfl, rfl⟩ := e2
  have hh := heap_alloc_new w (.cells #[.bool a, .int .i64 f, .int .i64 p, pv, .int .i64 k, fv, .bool a', .int .i64 f', .int .i64 p', pv', .int .i64 k', fv'] 49 (0, 0))
  have hb1 : Below w.heap.size w (w.alloc (.cells #[.bool a, .int .i64 f, .int .i64 p, pv, .int .i64 k, fv, .bool a', .int .i64 f', .int .i64 p', pv', .int .i64 k', fv'] 49)) := (Below.refl _ _).alloc (Nat.le_refl _) _
  exact TyS.two (N := M) (b := w.heap.size) (cap := 2) ⟨(Array.getElem?_eq_some_iff.1 hh).1, fun h => by have := hM _ h; omega⟩
    (r := ⟨a, f, p, pv, k, fv⟩) (s := ⟨a', f', p', pv', k', fv'⟩)
    ⟨Lib.cell_of_heap hh 0, Lib.cell_of_heap hh 1, Lib.cell_of_heap hh 2, Lib.cell_of_heap hh 3, Lib.cell_of_heap hh 4, Lib.cell_of_heap hh 5⟩
    ⟨Lib.cell_of_heap hh 6, Lib.cell_of_heap hh 7, Lib.cell_of_heap hh 8, Lib.cell_of_heap hh 9, Lib.cell_of_heap hh 10, Lib.cell_of_heap hh 11⟩
    (h1.mono (fun _ h => ⟨Nat.lt_of_lt_of_le h.1 hb1.size, h.2⟩) fun _ _ h => hb1.cell (p := ⟨_, _, none⟩) h.1) (h2.mono (fun _ h => ⟨Nat.lt_of_lt_of_le h.1 hb1.size, h.2⟩) fun _ _ h => hb1.cell (p := ⟨_, _, none⟩) h.1)
/-- the shape of a type's value -/
theorem TyVN.shape {N : Nat → Prop} {w : World} {v : Value} {t : Ty} (h : TyVN N w v t) : ∃ a f p pa np pc k fa nf fc, v = .agg #[.bool a, .int .i64 f, .int .i64 p, .slice pa np pc, .int .i64 k, .slice fa nf fc] := by
  obtain ⟨pa, pc, fa, fc, e, _⟩ := h.form
  exact ⟨_, _, _, _, _, _, _, _, _, _, e⟩
theorem box12 {w : World} {g h : Nat} {a a' : Bool} {f f' p p' k k' : Int} {pv pv' fv fv' : Value} (hx : BoxAt w g a f p pv k fv) (hy : BoxAt w h a' f' p' pv' k' fv') :
    w.cell? ⟨g, 0, none⟩ = some (.bool a) ∧ w.cell? ⟨g, 1, none⟩ = some (.int .i64 f) ∧ w.cell? ⟨g, 2, none⟩ = some (.int .i64 p) ∧ w.cell? ⟨g, 3, none⟩ = some pv ∧ w.cell? ⟨g, 4, none⟩ = some (.int .i64 k) ∧ w.cell? ⟨g, 5, none⟩ = some fv ∧
    w.cell? ⟨h, 0, none⟩ = some (.bool a') ∧ w.cell? ⟨h, 1, none⟩ = some (.int .i64 f') ∧ w.cell? ⟨h, 2, none⟩ = some (.int .i64 p') ∧ w.cell? ⟨h, 3, none⟩ = some pv' ∧ w.cell? ⟨h, 4, none⟩ = some (.int .i64 k') ∧ w.cell? ⟨h, 5, none⟩ = some fv' :=
  ⟨hx.c0, hx.c1, hx.c2, hx.c3, hx.c4, hx.c5, hy.c0, hy.c1, hy.c2, hy.c3, hy.c4, hy.c5⟩

set_option maxRecDepth 100000 in
set_option maxHeartbeats 16000000 in
theorem joinPairs_any {N : Nat → Prop} {St : Nat → World → Prop} {k : Nat} {lb : Array Value} {W0 : World} {R : Ty → Ty → Prop} {J : Ty → Ty → Ty} {cost : Ty → Ty → Nat} {lim : Nat} (F : FnT N St k lb W0 R J cost lim)
    (M : Nat → Prop) (hNM : ∀ b, N b → M b) (x y : Ty) (vx vy : Value) (w : World) (n : Nat) (hM : ∀ b, M b → b < w.heap.size) (hw : Stay N W0 w) (hst : St n w) (hx : TyVN M w vx x) (hy : TyVN M w vy y) (okx : HdT x) (oky : HdT y)
    (hR1 : x.pair ≠ 0 → y.pair ≠ 0 → R (carT x) (carT y)) (hR2 : x.pair ≠ 0 → y.pair ≠ 0 → ¬ (x.pair = 2 ∧ y.pair = 2) → R (cdrT x) (cdrT y)) (hc : n + joinPairsC cost x y ≤ lim) :
    Calls Try.prog 91 #[vx, vy, .func (.func k) #[] lb] w (PairPost M N St (joinPairsP x y) (joinPairsL J x y) (n + joinPairsC cost x y) w) := by
  have eg := F.enter
  have hkeep := F.keep
  have px := ok_pairs okx
  have py := ok_pairs oky
  have hA : y.pair = 0 → joinPairsP x y = x.pair ∧ joinPairsL J x y = x.pairs := fun h => by simp [joinPairsP, joinPairsL, h]
  have hB : y.pair ≠ 0 → x.pair = 0 → joinPairsP x y = y.pair ∧ joinPairsL J x y = y.pairs := fun h h' => by simp [joinPairsP, joinPairsL, h, h']
  have hCl : y.pair ≠ 0 → x.pair ≠ 0 → x.pair = 2 ∧ y.pair = 2 → joinPairsP x y = 2 ∧ joinPairsL J x y = [J (carT x) (carT y)] := fun h h' h2 => by unfold joinPairsP joinPairsL; rw [if_neg h, if_neg h', if_pos h2, if_neg h, if_neg h', if_pos h2]; exact ⟨rfl, rfl⟩
  have hCp : y.pair ≠ 0 → x.pair ≠ 0 → ¬ (x.pair = 2 ∧ y.pair = 2) → joinPairsP x y = 1 ∧ joinPairsL J x y = [J (carT x) (carT y), J (cdrT x) (cdrT y)] := fun h h' h2 => by unfold joinPairsP joinPairsL; rw [if_neg h, if_neg h', if_neg h2, if_neg h, if_neg h', if_neg h2]; exact ⟨rfl, rfl⟩
  have hCar : ∀ w1, Stay N w w1 → Calls Try.prog 95 #[.func (.func 96) #[] #[], vx, vy] w1 (BothPost M (carT x) (carT y) w1) := fun w1 hb =>
    both_car M x y vx vy w1 (fun b h => Nat.lt_of_lt_of_le (hM b h) hb.size) (hx.stay (hb.mono hNM)) (hy.stay (hb.mono hNM)) okx oky
  have hCdr : ∀ w1, Stay N w w1 → Calls Try.prog 95 #[.func (.func 98) #[] #[], vx, vy] w1 (BothPost M (cdrT x) (cdrT y) w1) := fun w1 hb =>
    both_cdr M x y vx vy w1 (fun b h => Nat.lt_of_lt_of_le (hM b h) hb.size) (hx.stay (hb.mono hNM)) (hy.stay (hb.mono hNM)) okx oky
  have hF1 : x.pair ≠ 0 → y.pair ≠ 0 → ∀ w1 u v, Stay N w w1 → St n w1 → TyVN M w1 u (carT x) → TyVN M w1 v (carT y) → Calls Try.prog k (#[u, v] ++ lb) w1
      fun e w' => (∃ v, e = .returned v ∧ TyVN M w' v (J (carT x) (carT y))) ∧ Stay N w1 w' ∧ ∃ n', n' ≤ n + cost (carT x) (carT y) ∧ St n' w' := fun h h' w1 u v h1 h2 h3 h4 =>
    F.call M w1 u v _ _ n hNM (fun b h => Nat.lt_of_lt_of_le (hM b h) h1.size) (hw.trans h1) h2 (by unfold joinPairsC at hc; rw [if_neg (fun e => e.elim h h')] at hc; omega) (hR1 h h') h3 h4
  have hF2 : x.pair ≠ 0 → y.pair ≠ 0 → ¬ (x.pair = 2 ∧ y.pair = 2) → ∀ w1 u v n1, Stay N w w1 → St n1 w1 → n1 ≤ n + cost (carT x) (carT y) → TyVN M w1 u (cdrT x) → TyVN M w1 v (cdrT y) → Calls Try.prog k (#[u, v] ++ lb) w1
      fun e w' => (∃ v, e = .returned v ∧ TyVN M w' v (J (cdrT x) (cdrT y))) ∧ Stay N w1 w' ∧ ∃ n', n' ≤ n1 + cost (cdrT x) (cdrT y) ∧ St n' w' := fun h h' hl w1 u v n1 h1 h2 hn1 h3 h4 =>
    F.call M w1 u v _ _ n1 hNM (fun b h => Nat.lt_of_lt_of_le (hM b h) h1.size) (hw.trans h1) h2 (by unfold joinPairsC at hc; rw [if_neg (fun e => e.elim h h'), if_neg hl] at hc; omega) (hR2 h h' hl) h3 h4
  have hC1 : x.pair ≠ 0 → y.pair ≠ 0 → cost (carT x) (carT y) ≤ joinPairsC cost x y := fun h h' => by unfold joinPairsC; rw [if_neg (fun e => e.elim h h')]; omega
  have hC2 : x.pair ≠ 0 → y.pair ≠ 0 → ¬ (x.pair = 2 ∧ y.pair = 2) → joinPairsC cost x y = cost (carT x) (carT y) + cost (cdrT x) (cdrT y) := fun h h' hl => by unfold joinPairsC; rw [if_neg (fun e => e.elim h h'), if_neg hl]
  generalize cost (carT x) (carT y) = c1 at hF1 hF2 hC1 hC2
  generalize cost (cdrT x) (cdrT y) = c2 at hF2 hC2
  generalize J (carT x) (carT y) = j1 at hCl hCp hF1
  generalize J (cdrT x) (cdrT y) = j2 at hCp hF2
  generalize joinPairsC cost x y = cc at hc hC1 hC2 ⊢
  generalize joinPairsP x y = zp at hA hB hCl hCp ⊢
  generalize joinPairsL J x y = zl at hA hB hCl hCp ⊢
  obtain ⟨xpa, xpc, xfa, xfc, rfl, xhp, xhf⟩ := hx.form
  obtain ⟨xnp, xhnp⟩ : ∃ n, n = x.pairs.length := ⟨_, rfl⟩
  obtain ⟨xnf, xhnf⟩ : ∃ n, n = x.funs.length := ⟨_, rfl⟩
  obtain ⟨xa, xha⟩ : ∃ a, a = x.all := ⟨_, rfl⟩
  obtain ⟨xf, xhf'⟩ : ∃ a, a = x.flat := ⟨_, rfl⟩
  obtain ⟨xp, xhp'⟩ : ∃ a, a = x.pair := ⟨_, rfl⟩
  obtain ⟨xn, xhn⟩ : ∃ a, a = x.fn := ⟨_, rfl⟩
  obtain ⟨ypa, ypc, yfa, yfc, rfl, yhp, yhf⟩ := hy.form
  obtain ⟨ynp, yhnp⟩ : ∃ n, n = y.pairs.length := ⟨_, rfl⟩
  obtain ⟨ynf, yhnf⟩ : ∃ n, n = y.funs.length := ⟨_, rfl⟩
  obtain ⟨ya, yha⟩ : ∃ a, a = y.all := ⟨_, rfl⟩
  obtain ⟨yf, yhf'⟩ : ∃ a, a = y.flat := ⟨_, rfl⟩
  obtain ⟨yp, yhp'⟩ : ∃ a, a = y.pair := ⟨_, rfl⟩
  obtain ⟨yn, yhn⟩ : ∃ a, a = y.fn := ⟨_, rfl⟩
  have hClx : ∀ w1, Stay N w w1 → Calls Try.prog 70 #[.slice xpa x.pairs.length xpc] w1 fun e w' => (∃ v', e = .returned v' ∧ TyS w' (Lo M w') v' x.pairs) ∧ Below w1.heap.size w1 w' := fun w1 hb =>
    clone_any M x.pairs _ w1 (fun b h => Nat.lt_of_lt_of_le (hM b h) hb.size) (TySN.stay xhp (hb.mono hNM)) (by omega)
  have hCly : ∀ w1, Stay N w w1 → Calls Try.prog 70 #[.slice ypa y.pairs.length ypc] w1 fun e w' => (∃ v', e = .returned v' ∧ TyS w' (Lo M w') v' y.pairs) ∧ Below w1.heap.size w1 w' := fun w1 hb =>
    clone_any M y.pairs _ w1 (fun b h => Nat.lt_of_lt_of_le (hM b h) hb.size) (TySN.stay yhp (hb.mono hNM)) (by omega)
  generalize carT x = ax at hCar hF1
  generalize carT y = ay at hCar hF1
  generalize cdrT x = dx at hCdr hF2
  generalize cdrT y = dy at hCdr hF2
  rw [← xhnp, ← xhnf, ← xha, ← xhf', ← xhp', ← xhn, ← yhnp, ← yhnf, ← yha, ← yhf', ← yhp', ← yhn] at hCar hCdr
  rw [← xhnp] at hClx
  rw [← yhnp] at hCly
  rw [← xhp', ← yhp'] at hB hCl hCp hF1 hF2 hC1 hC2
  rw [← xhp', ← yhp'] at hA
  rw [← xhp', ← xhnp] at px
  rw [← yhp', ← yhnp] at py
  obtain ⟨lx, hlx⟩ : ∃ l, l = x.pairs := ⟨_, rfl⟩
  obtain ⟨ly, hly⟩ : ∃ l, l = y.pairs := ⟨_, rfl⟩
  rw [← hlx] at hA hClx
  rw [← hly] at hB hCly
  clear hlx hly
  rw [← xhnp, ← xhnf, ← xha, ← xhf', ← xhp', ← xhn, ← yhnp, ← yhnf, ← yha, ← yhf', ← yhp', ← yhn]
  obtain ⟨W, hW⟩ : ∃ W, W = (w.alloc (.cells #[.bool xa, .int .i64 xf, .int .i64 xp, (.slice xpa xnp xpc), .int .i64 xn, (.slice xfa xnf xfc)] 49)).alloc (.cells #[.bool ya, .int .i64 yf, .int .i64 yp, (.slice ypa ynp ypc), .int .i64 yn, (.slice yfa ynf yfc)] 49) := ⟨_, rfl⟩
  obtain ⟨g, hg⟩ : ∃ g, g = w.heap.size := ⟨_, rfl⟩
  have HBX := Lib.hid (show BoxAt W g xa xf xp (.slice xpa xnp xpc) xn (.slice xfa xnf xfc) by rw [hW, hg]; exact (BoxAt.made _ _ _ _ _ _ _).keep ((Below.refl _ _).alloc (Nat.le_refl _) _))
  have HBY := Lib.hid (show BoxAt W (g + 1) ya yf yp (.slice ypa ynp ypc) yn (.slice yfa ynf yfc) by rw [hW, hg]; have := BoxAt.made (w.alloc (.cells #[.bool xa, .int .i64 xf, .int .i64 xp, (.slice xpa xnp xpc), .int .i64 xn, (.slice xfa xnf xfc)] 49)) ya yf yp (.slice ypa ynp ypc) yn (.slice yfa ynf yfc); simpa using this)
  have HBW := Lib.hid (show Below w.heap.size w W by rw [hW]; exact ((Below.refl _ _).alloc (Nat.le_refl _) _).alloc (by simp) _)
  have HSZ := Lib.hid (show W.heap.size = g + 2 by rw [hW, hg]; simp)
  have HG := Lib.hid hg
  have HW := Lib.hid hW
  have HN := Lib.hid (show ¬ N g ∧ ¬ N (g + 1) by rw [hg]; exact ⟨fun h => by have := hM _ (hNM _ h); omega, fun h => by have := hM _ (hNM _ h); omega⟩)
  have HM0 := Lib.hid hM
  have HNM := Lib.hid hNM
  have HST := Lib.hid (hkeep _ _ _ hst HBW.out)
  have HS1 := Lib.hid (Stay.of (N := N) HBW.out)
  have HA := Lib.hid hA
  have HB := Lib.hid hB
  have HCL := Lib.hid hCl
  have HCP := Lib.hid hCp
  have HCAR := Lib.hid hCar
  have HCDR := Lib.hid hCdr
  have HCLX := Lib.hid hClx
  have HCLY := Lib.hid hCly
  have HF1 := Lib.hid hF1
  have HF2 := Lib.hid hF2
  have HC1 := Lib.hid hC1
  have HC2 := Lib.hid hC2
  have HK := Lib.hid hkeep
  clear hA hB hCl hCp hCar hCdr hClx hCly hF1 hF2 hC1 hC2 hkeep hst hW hg hM hNM hR1 hR2 hc hw hx hy F okx oky xhp xhf xhnp xhnf xha xhf' xhp' xhn yhp yhf yhnp yhnf yha yhf' yhp' yhn
  by_cases hyp : yp = 0
  · have hv1 : hasPr yp ynp = false := has_no py hyp
    have HZ := Lib.hid (HA.out hyp)
    clear hyp px py
    go_enter Try.func91, Try.ntmps91
    go_wp2_with fail
    rw [← HG.out, ← HW.out]
    refine (hasP_raw _ _ _ _ _ _ _ _ _ _ W).mono ?_
    rintro e w2 ⟨rfl, hb2⟩
    rw [hv1]
    have HX2 := Lib.hid (HBX.out.keep hb2)
    have HY2 := Lib.hid (HBY.out.keep hb2)
    have HS2 := Lib.hid (HS1.out.then hb2)
    have HT2 := Lib.hid (HK.out _ _ _ HST.out hb2)
    clear hb2
    have x0 := HX2.out.c0
    have x1 := HX2.out.c1
    have x2 := HX2.out.c2
    have x3 := HX2.out.c3
    have x4 := HX2.out.c4
    have x5 := HX2.out.c5
    have y0 := HY2.out.c0
    have y1 := HY2.out.c1
    have y2 := HY2.out.c2
    have y3 := HY2.out.c3
    have y4 := HY2.out.c4
    have y5 := HY2.out.c5
    have hgl := HX2.out.lt
    go_wp2_with fail
    go_region_held3 (fun w' => w'.cell? ⟨g, 2, none⟩ = some (.int .i64 xp) ∧ w'.cell? ⟨g, 3, none⟩ = some (.slice xpa xnp xpc))
      (first
        | exact ⟨x2, x3⟩
        | exact ⟨(hbz.cell (p := ⟨_, _, _⟩) hgl).trans x2, (hbz.cell (p := ⟨_, _, _⟩) hgl).trans x3⟩
        | go_keep)
      (first
        | ((go_at_call 70; refine (HCLX.out _ ?hb).mono ?_; (case hb => first | exact HS2.out | exact HS2.out.then (Below.refl _ _).drew); rintro e wz ⟨⟨v', rfl, ht'⟩, hbz⟩)))
    have HTV := Lib.hid ht'
    have HBZ := Lib.hid hbz
    clear ht' hbz
    go_wp2
    refine bodyPost_ret (v := .tuple #[.int .i64 xp, v']) ?_ ?_ ?_
    · simp [results, Try.results91, go_sem]
    · rfl
    · first
        | exact ⟨⟨_, by rw [HZ.out.1], by rw [HZ.out.2]; exact HTV.out⟩, HS2.out.then HBZ.out, n, by omega, HK.out _ _ _ HT2.out HBZ.out⟩
        | exact ⟨⟨_, by rw [HZ.out.1], by rw [HZ.out.2]; exact TySN.below HTV.out (Below.refl _ _).drew⟩, HS2.out.then HBZ.out.drew, n, by omega, HK.out _ _ _ HT2.out HBZ.out.drew⟩
        | exact ⟨⟨_, by rw [HZ.out.1], by rw [HZ.out.2]; exact HTV.out⟩, HS2.out.then ((Below.refl _ _).drew.trans HBZ.out), n, by omega, HK.out _ _ _ HT2.out ((Below.refl _ _).drew.trans HBZ.out)⟩
  by_cases hxp : xp = 0
  · have hv1 : hasPr yp ynp = true := has_yes py hyp
    have hv2 : hasPr xp xnp = false := has_no px hxp
    have HZ := Lib.hid (HB.out hyp hxp)
    clear hyp hxp px py
    go_enter Try.func91, Try.ntmps91
    go_wp2_with fail
    rw [← HG.out, ← HW.out]
    refine (hasP_raw _ _ _ _ _ _ _ _ _ _ W).mono ?_
    rintro e w2 ⟨rfl, hb2⟩
    rw [hv1]
    have HX2 := Lib.hid (HBX.out.keep hb2)
    have HY2 := Lib.hid (HBY.out.keep hb2)
    have HS2 := Lib.hid (HS1.out.then hb2)
    have HT2 := Lib.hid (HK.out _ _ _ HST.out hb2)
    clear hb2
    have x0 := HX2.out.c0
    have x1 := HX2.out.c1
    have x2 := HX2.out.c2
    have x3 := HX2.out.c3
    have x4 := HX2.out.c4
    have x5 := HX2.out.c5
    have y0 := HY2.out.c0
    have y1 := HY2.out.c1
    have y2 := HY2.out.c2
    have y3 := HY2.out.c3
    have y4 := HY2.out.c4
    have y5 := HY2.out.c5
    go_wp2_with fail
    refine (hasP_raw _ _ _ _ _ _ _ _ _ _ w2).mono ?_
    rintro e w3 ⟨rfl, hb3⟩
    rw [hv2]
    have HX3 := Lib.hid (HX2.out.keep hb3)
    have HY3 := Lib.hid (HY2.out.keep hb3)
    have HS3 := Lib.hid (HS2.out.then hb3)
    have HT3 := Lib.hid (HK.out _ _ _ HT2.out hb3)
    clear hb3
    clear x0 x1 x2 x3 x4 x5 y0 y1 y2 y3 y4 y5
    have x0 := HX3.out.c0
    have x1 := HX3.out.c1
    have x2 := HX3.out.c2
    have x3 := HX3.out.c3
    have x4 := HX3.out.c4
    have x5 := HX3.out.c5
    have y0 := HY3.out.c0
    have y1 := HY3.out.c1
    have y2 := HY3.out.c2
    have y3 := HY3.out.c3
    have y4 := HY3.out.c4
    have y5 := HY3.out.c5
    have hgl := HY3.out.lt
    go_wp2_with fail
    go_region_held3 (fun w' => w'.cell? ⟨g + 1, 2, none⟩ = some (.int .i64 yp) ∧ w'.cell? ⟨g + 1, 3, none⟩ = some (.slice ypa ynp ypc))
      (first
        | exact ⟨y2, y3⟩
        | exact ⟨(hbz.cell (p := ⟨_, _, _⟩) hgl).trans y2, (hbz.cell (p := ⟨_, _, _⟩) hgl).trans y3⟩
        | go_keep)
      (first
        | ((go_at_call 70; refine (HCLY.out _ ?hb).mono ?_; (case hb => first | exact HS3.out | exact HS3.out.then (Below.refl _ _).drew); rintro e wz ⟨⟨v', rfl, ht'⟩, hbz⟩)))
    have HTV := Lib.hid ht'
    have HBZ := Lib.hid hbz
    clear ht' hbz
    go_wp2
    refine bodyPost_ret (v := .tuple #[.int .i64 yp, v']) ?_ ?_ ?_
    · simp [results, Try.results91, go_sem]
    · rfl
    · first
        | exact ⟨⟨_, by rw [HZ.out.1], by rw [HZ.out.2]; exact HTV.out⟩, HS3.out.then HBZ.out, n, by omega, HK.out _ _ _ HT3.out HBZ.out⟩
        | exact ⟨⟨_, by rw [HZ.out.1], by rw [HZ.out.2]; exact TySN.below HTV.out (Below.refl _ _).drew⟩, HS3.out.then HBZ.out.drew, n, by omega, HK.out _ _ _ HT3.out HBZ.out.drew⟩
        | exact ⟨⟨_, by rw [HZ.out.1], by rw [HZ.out.2]; exact HTV.out⟩, HS3.out.then ((Below.refl _ _).drew.trans HBZ.out), n, by omega, HK.out _ _ _ HT3.out ((Below.refl _ _).drew.trans HBZ.out)⟩
  by_cases hl : xp = 2 ∧ yp = 2
  · have hv1 : hasPr yp ynp = true := has_yes py hyp
    have hv2 : hasPr xp xnp = true := has_yes px hxp
    have hl2 : (xp == 2 && yp == 2) = true := by rw [hl.1, hl.2]; rfl
    have HZ := Lib.hid (HCL.out hyp hxp hl)
    have HF1' := Lib.hid (HF1.out hxp hyp)
    have HC1' := Lib.hid (HC1.out hxp hyp)
    clear hyp hxp px py hl HF1 HF2 HC1 HC2 HA HB HCP HCL
    go_enter Try.func91, Try.ntmps91
    go_wp2_with fail
    rw [← HG.out, ← HW.out]
    refine (hasP_raw _ _ _ _ _ _ _ _ _ _ W).mono ?_
    rintro e w2 ⟨rfl, hb2⟩
    rw [hv1]
    have HX2 := Lib.hid (HBX.out.keep hb2)
    have HY2 := Lib.hid (HBY.out.keep hb2)
    have HS2 := Lib.hid (HS1.out.then hb2)
    have HT2 := Lib.hid (HK.out _ _ _ HST.out hb2)
    clear hb2
    have x0 := HX2.out.c0
    have x1 := HX2.out.c1
    have x2 := HX2.out.c2
    have x3 := HX2.out.c3
    have x4 := HX2.out.c4
    have x5 := HX2.out.c5
    have y0 := HY2.out.c0
    have y1 := HY2.out.c1
    have y2 := HY2.out.c2
    have y3 := HY2.out.c3
    have y4 := HY2.out.c4
    have y5 := HY2.out.c5
    go_wp2_with fail
    refine (hasP_raw _ _ _ _ _ _ _ _ _ _ w2).mono ?_
    rintro e w3 ⟨rfl, hb3⟩
    rw [hv2]
    have HX3 := Lib.hid (HX2.out.keep hb3)
    have HY3 := Lib.hid (HY2.out.keep hb3)
    have HS3 := Lib.hid (HS2.out.then hb3)
    have HT3 := Lib.hid (HK.out _ _ _ HT2.out hb3)
    clear hb3
    clear x0 x1 x2 x3 x4 x5 y0 y1 y2 y3 y4 y5
    have x0 := HX3.out.c0
    have x1 := HX3.out.c1
    have x2 := HX3.out.c2
    have x3 := HX3.out.c3
    have x4 := HX3.out.c4
    have x5 := HX3.out.c5
    have y0 := HY3.out.c0
    have y1 := HY3.out.c1
    have y2 := HY3.out.c2
    have y3 := HY3.out.c3
    have y4 := HY3.out.c4
    have y5 := HY3.out.c5
    go_wp2_with fail
    refine (lists_raw _ _ _ _ _ _ _ _ _ _ _ _ _ _ _ _ _ _ _ _ w3).mono ?_
    rintro e w4 ⟨rfl, hb4⟩
    rw [hl2]
    have HX4 := Lib.hid (HX3.out.keep hb4)
    have HY4 := Lib.hid (HY3.out.keep hb4)
    have HS4 := Lib.hid (HS3.out.then hb4)
    have HT4 := Lib.hid (HK.out _ _ _ HT3.out hb4)
    clear hb4 hl2 hv1 hv2
    clear x0 x1 x2 x3 x4 x5 y0 y1 y2 y3 y4 y5
    have x0 := HX4.out.c0
    have x1 := HX4.out.c1
    have x2 := HX4.out.c2
    have x3 := HX4.out.c3
    have x4 := HX4.out.c4
    have x5 := HX4.out.c5
    have y0 := HY4.out.c0
    have y1 := HY4.out.c1
    have y2 := HY4.out.c2
    have y3 := HY4.out.c3
    have y4 := HY4.out.c4
    have y5 := HY4.out.c5
    go_wp2_with fail
    refine (HCAR.out w4 HS4.out).mono ?_
    rintro e w5 ⟨⟨u, v, rfl, hu, hv⟩, hb5⟩
    have HC5 := Lib.hid (HF1'.out w5 u v (HS4.out.then hb5) (HK.out _ _ _ HT4.out hb5) hu hv)
    have HS5 := Lib.hid (HS4.out.then hb5)
    clear hu hv hb5
    go_wp2_with fail
    refine HC5.out.mono ?_
    rintro e w6 ⟨⟨q, rfl, hq⟩, hs6, n6, hn6, ht6⟩
    obtain ⟨r, rfl, hr⟩ := hq
    obtain ⟨ra, rf, rp, pv, rn, fv⟩ := r
    obtain ⟨pa, pc, rfl⟩ : ∃ a c, pv = .slice a j1.pairs.length c := hr.pv.val
    obtain ⟨fa, fc, rfl⟩ : ∃ a c, fv = .slice a j1.funs.length c := hr.fv.val
    have HR := Lib.hid hr
    have HS6 := Lib.hid (HS5.out.trans hs6)
    have HN6 := Lib.hid hn6
    have HT6 := Lib.hid ht6
    clear hr hs6 hn6 ht6
    generalize j1.pairs.length = l1 at HR ⊢
    generalize j1.funs.length = l2 at HR ⊢
    simp only [rawV]
    clear x0 x1 x2 x3 x4 x5 y0 y1 y2 y3 y4 y5
    go_wp2
    refine bodyPost_ret (v := .tuple #[.int .i64 2, .slice (some ⟨w6.heap.size, 0, none⟩) 1 1]) ?_ ?_ ?_
    · simp [results, Try.results91, go_sem]
    · rfl
    · have hb7 : Below w6.heap.size w6 (w6.alloc (.cells #[.bool ra, .int .i64 rf, .int .i64 rp, .slice pa l1 pc, .int .i64 rn, .slice fa l2 fc] 49)) := (Below.refl _ _).alloc (Nat.le_refl _) _
      refine ⟨⟨_, by rw [HZ.out.1], ?_⟩, HS6.out.then hb7, n6, by have := HN6.out; have := HC1'.out; omega, HK.out _ _ _ HT6.out hb7⟩
      rw [HZ.out.2]
      exact TyS.one (fun b h => Nat.lt_of_lt_of_le (HM0.out b h) HS6.out.size) HR.out
  have hv1 : hasPr yp ynp = true := has_yes py hyp
  have hv2 : hasPr xp xnp = true := has_yes px hxp
  have hl2 : (xp == 2 && yp == 2) = false := by rw [Bool.eq_false_iff]; intro h; rw [Bool.and_eq_true, beq_iff_eq, beq_iff_eq] at h; exact hl h
  have HZ := Lib.hid (HCP.out hyp hxp hl)
  have HF1' := Lib.hid (HF1.out hxp hyp)
  have HF2' := Lib.hid (HF2.out hxp hyp hl)
  have HC2' := Lib.hid (HC2.out hxp hyp hl)
  clear hyp hxp px py hl HF1 HF2 HC1 HC2 HA HB HCP HCL
  go_enter Try.func91, Try.ntmps91
  go_wp2_with fail
  rw [← HG.out, ← HW.out]
  refine (hasP_raw _ _ _ _ _ _ _ _ _ _ W).mono ?_
  rintro e w2 ⟨rfl, hb2⟩
  rw [hv1]
  have HX2 := Lib.hid (HBX.out.keep hb2)
  have HY2 := Lib.hid (HBY.out.keep hb2)
  have HS2 := Lib.hid (HS1.out.then hb2)
  have HT2 := Lib.hid (HK.out _ _ _ HST.out hb2)
  clear hb2
  have x0 := HX2.out.c0
  have x1 := HX2.out.c1
  have x2 := HX2.out.c2
  have x3 := HX2.out.c3
  have x4 := HX2.out.c4
  have x5 := HX2.out.c5
  have y0 := HY2.out.c0
  have y1 := HY2.out.c1
  have y2 := HY2.out.c2
  have y3 := HY2.out.c3
  have y4 := HY2.out.c4
  have y5 := HY2.out.c5
  go_wp2_with fail
  refine (hasP_raw _ _ _ _ _ _ _ _ _ _ w2).mono ?_
  rintro e w3 ⟨rfl, hb3⟩
  rw [hv2]
  have HX3 := Lib.hid (HX2.out.keep hb3)
  have HY3 := Lib.hid (HY2.out.keep hb3)
  have HS3 := Lib.hid (HS2.out.then hb3)
  have HT3 := Lib.hid (HK.out _ _ _ HT2.out hb3)
  clear hb3
  clear x0 x1 x2 x3 x4 x5 y0 y1 y2 y3 y4 y5
  have x0 := HX3.out.c0
  have x1 := HX3.out.c1
  have x2 := HX3.out.c2
  have x3 := HX3.out.c3
  have x4 := HX3.out.c4
  have x5 := HX3.out.c5
  have y0 := HY3.out.c0
  have y1 := HY3.out.c1
  have y2 := HY3.out.c2
  have y3 := HY3.out.c3
  have y4 := HY3.out.c4
  have y5 := HY3.out.c5
  go_wp2_with fail
  refine (lists_raw _ _ _ _ _ _ _ _ _ _ _ _ _ _ _ _ _ _ _ _ w3).mono ?_
  rintro e w4 ⟨rfl, hb4⟩
  rw [hl2]
  have HX4 := Lib.hid (HX3.out.keep hb4)
  have HY4 := Lib.hid (HY3.out.keep hb4)
  have HS4 := Lib.hid (HS3.out.then hb4)
  have HT4 := Lib.hid (HK.out _ _ _ HT3.out hb4)
  clear hb4 hl2 hv1 hv2
  clear x0 x1 x2 x3 x4 x5 y0 y1 y2 y3 y4 y5
  have x0 := HX4.out.c0
  have x1 := HX4.out.c1
  have x2 := HX4.out.c2
  have x3 := HX4.out.c3
  have x4 := HX4.out.c4
  have x5 := HX4.out.c5
  have y0 := HY4.out.c0
  have y1 := HY4.out.c1
  have y2 := HY4.out.c2
  have y3 := HY4.out.c3
  have y4 := HY4.out.c4
  have y5 := HY4.out.c5
  clear HX2 HY2 HX3 HY3 HS2 HS3 HT2 HT3 HBX HBY
  go_wp2_with fail
  clear x0 x1 x2 x3 x4 x5 y0 y1 y2 y3 y4 y5
  go_region_held3 (fun w' => w'.cell? ⟨g, 0, none⟩ = some (.bool xa) ∧ w'.cell? ⟨g, 1, none⟩ = some (.int .i64 xf) ∧ w'.cell? ⟨g, 2, none⟩ = some (.int .i64 xp) ∧ w'.cell? ⟨g, 3, none⟩ = some (.slice xpa xnp xpc) ∧ w'.cell? ⟨g, 4, none⟩ = some (.int .i64 xn) ∧ w'.cell? ⟨g, 5, none⟩ = some (.slice xfa xnf xfc) ∧
      w'.cell? ⟨g + 1, 0, none⟩ = some (.bool ya) ∧ w'.cell? ⟨g + 1, 1, none⟩ = some (.int .i64 yf) ∧ w'.cell? ⟨g + 1, 2, none⟩ = some (.int .i64 yp) ∧ w'.cell? ⟨g + 1, 3, none⟩ = some (.slice ypa ynp ypc) ∧ w'.cell? ⟨g + 1, 4, none⟩ = some (.int .i64 yn) ∧ w'.cell? ⟨g + 1, 5, none⟩ = some (.slice yfa ynf yfc))
    (first
      | exact box12 HX8.out HY8.out
      | exact box12 HX7.out HY7.out
      | exact box12 HX6.out HY6.out
      | exact box12 HX5.out HY5.out
      | exact box12 HX4.out HY4.out
      | go_keep)
    (first
      | ((have _z := hb7; go_simp; go_at_fn k; refine (HF2'.out _ _ _ n6 ?h1 ?h2 ?h0 ?h3 ?h4).mono ?_; (case h3 => exact hu2); (case h4 => exact hv2'); (case h0 => exact hn6); (case h1 => exact (((HS4.out.then (Below.refl _ _).drew).then hb5).trans hs6).then hb7); (case h2 => exact HK.out _ _ _ ht6 hb7); rintro e w8 ⟨⟨q2, rfl, hq2⟩, hs8, n8, hn8, ht8⟩; obtain ⟨ra, rf, rp, rpa, rnp, rpc, rk, rfa, rnf, rfc, rfl⟩ := hq2.shape; have HX8 := Lib.hid (HX7.out.stay hs8 HN.out.1); have HY8 := Lib.hid (HY7.out.stay hs8 HN.out.2)))
      | ((have _z := hs6; go_simp; go_at_call 95; refine (HCDR.out _ ?hb).mono ?_; (case hb => exact ((HS4.out.then (Below.refl _ _).drew).then hb5).trans hs6); rintro e w7 ⟨⟨u2, v2, rfl, hu2, hv2'⟩, hb7⟩; have HX7 := Lib.hid (HX6.out.keep hb7); have HY7 := Lib.hid (HY6.out.keep hb7)))
      | ((have _z := hb5; go_simp; go_at_fn k; refine (HF1'.out _ _ _ ?h1 ?h2 ?h3 ?h4).mono ?_; (case h3 => exact hu); (case h4 => exact hv); (case h1 => exact (HS4.out.then (Below.refl _ _).drew).then hb5); (case h2 => exact HK.out _ _ _ HT4.out ((Below.refl _ _).drew.trans hb5)); rintro e w6 ⟨⟨q, rfl, hq⟩, hs6, n6, hn6, ht6⟩; obtain ⟨qa, qf, qp, qpa, qnp, qpc, qk, qfa, qnf, qfc, rfl⟩ := hq.shape; have HX6 := Lib.hid (HX5.out.stay hs6 HN.out.1); have HY6 := Lib.hid (HY5.out.stay hs6 HN.out.2)))
      | ((go_simp; go_at_call 95; refine (HCAR.out _ ?hb).mono ?_; (case hb => exact HS4.out.then (Below.refl _ _).drew); rintro e w5 ⟨⟨u, v, rfl, hu, hv⟩, hb5⟩; have HX5 := Lib.hid ((HX4.out.keep (Below.refl _ _).drew).keep hb5); have HY5 := Lib.hid ((HY4.out.keep (Below.refl _ _).drew).keep hb5))))
  have HS8 := Lib.hid (((((HS4.out.then (Below.refl _ _).drew).then hb5).trans hs6).then hb7).trans hs8)
  have HQ := Lib.hid (((hq.stay (Stay.of hb7)).stay (hs8.mono HNM.out)))
  have HQ2 := Lib.hid hq2
  have HN8 := Lib.hid (show n8 ≤ n + c1 + c2 by omega)
  have HT8 := Lib.hid ht8
  clear hb5 hs6 hb7 hs8 hq hq2 hn8 ht8 hn6 ht6 hu hv hu2 hv2' HX4 HX5 HX6 HX7 HX8 HY4 HY5 HY6 HY7 HY8
  go_wp2
  refine bodyPost_ret (v := .tuple #[.int .i64 1, .slice (some ⟨w8.heap.size, 0, none⟩) 2 2]) ?_ ?_ ?_
  · simp [results, Try.results91, go_sem]
  · rfl
  · have hb9 : ∀ o, Below w8.heap.size w8 (w8.alloc o) := fun o => (Below.refl _ _).alloc (Nat.le_refl _) o
    have h2 := TyS.two_alloc (fun b h => Nat.lt_of_lt_of_le (HM0.out b h) HS8.out.size) HQ.out HQ2.out
    exact ⟨⟨_, by rw [HZ.out.1], by rw [HZ.out.2]; exact h2⟩, HS8.out.then (hb9 _), n8, by have := HN8.out; have := HC2'.out; omega, HK.out _ _ _ HT8.out (hb9 _)⟩
end Go.Proofs.Ytgjkobkcmgliaaa

import Derived.Test.YtlalnkabfigodaaDoorCoGf
namespace Go.Proofs.YtlalnkabfigodaaDoor
open Go.Lib (hid)
open Go.RowKit

/-- what to makes of what wrapping makes -/
def goT (t : Ty) (l : Int) (c : Co) : Co := .mk ⟨bitF t.flat 1 l, bitF t.flat 2 l, bitF t.flat 4 l, bitF t.flat 8 l, bitF t.flat 16 l, bitF t.flat 32 l, if t.pair = 0 then 1 else c.h.pair, if t.pair = 0 then l else c.h.pl, if t.fn = 0 then 1 else c.h.fn, if t.fn = 0 then l else c.h.fl⟩ c.pairs c.funs
theorem goC_tw0 (n : Nat) (t : Ty) (l : Int) (h : headOK t = true) (hl : l ≠ 0) (ha : t.all = false) : goC (n + 1) true t l = goT t l (wrC l t (t.pairs.map fun x => goC n true x l) (((List.range (t.funs.length - 1)).map fun i => goC n false (t.funs.getD i ty0) l) ++ [goC n true (t.funs.getD (t.funs.length - 1) ty0) l])) := by
 have hh : 0 ≤ t.pair ∧ t.pair ≤ 2 := by unfold headOK at h; rw [decide_eq_true_iff] at h; exact ⟨h.2.2.1, h.2.2.2.1⟩
 rw [goC, if_neg (by rw [ha]; simp)]
 unfold goT wrC wrP wrF
 generalize (t.pairs.map fun x => goC n true x l) = p
 generalize (((List.range (t.funs.length - 1)).map fun i => goC n false (t.funs.getD i ty0) l) ++ [goC n true (t.funs.getD (t.funs.length - 1) ty0) l]) = f
 have hg : t.fn = 0 → t.fn ≠ 1 := fun h => by omega
 rcases (by omega : t.pair = 0 ∨ t.pair = 1 ∨ t.pair = 2) with e | e | e <;> cases hp : allC p <;> cases hf : allC f <;> by_cases h1 : t.fn = 1 <;> by_cases h0 : t.fn = 0 <;> first | (exfalso; omega) | simp [e, h1, h0, hl, hp, hf, Co.h, Co.pairs, Co.funs]
theorem goC_tw (n : Nat) (t : Ty) (l : Int) (h : headOK t = true) (hl : l ≠ 0) : t.all = false → goC (n + 1) true t l = goT t l (wrC l t (t.pairs.map fun x => goC n true x l) (((List.range (t.funs.length - 1)).map fun i => goC n false (t.funs.getD i ty0) l) ++ [goC n true (t.funs.getD (t.funs.length - 1) ty0) l])) := goC_tw0 n t l h hl
def hdW (t : Ty) (l : Int) (h : Hd) (i : Nat) : Hd := ⟨if 0 < i then bitF t.flat 1 l else 0, if 1 < i then bitF t.flat 2 l else 0, if 2 < i then bitF t.flat 4 l else 0, if 3 < i then bitF t.flat 8 l else 0, if 4 < i then bitF t.flat 16 l else 0, if 5 < i then bitF t.flat 32 l else 0, h.pair, h.pl, h.fn, h.fl⟩
theorem hdW_store {t : Ty} {l : Int} {h : Hd} {i g : Nat} {w : World} {T : TypeId} {a b : Value} (hi : i < 6) (hb : (t.flat.tdiv ((2 ^ i : Nat) : Int)).tmod 2 = 0) (hx : CBox w g T ⟨hdW t l h i, a, b⟩) : CBox (w.setCell ⟨g, i, none⟩ (.int .i64 l)) g T ⟨hdW t l h (i + 1), a, b⟩ := by
 rcases (by omega : i = 0 ∨ i = 1 ∨ i = 2 ∨ i = 3 ∨ i = 4 ∨ i = 5) with rfl | rfl | rfl | rfl | rfl | rfl
 ·
  have e : hdW t l h (0 + 1) = { hdW t l h 0 with f0 := l } := by
   unfold hdW bitF
   rw [show ((2 ^ 0 : Nat) : Int) = 1 from rfl] at hb
   have hb2 : t.flat.tmod 2 = 0 := by simpa using hb
   simp [hb2]
  rw [e]
  exact hx.s0
 ·
  have e : hdW t l h (1 + 1) = { hdW t l h 1 with f1 := l } := by
   unfold hdW bitF
   rw [show ((2 ^ 1 : Nat) : Int) = 2 from rfl] at hb

   simp [hb]
  rw [e]
  exact hx.s1
 ·
  have e : hdW t l h (2 + 1) = { hdW t l h 2 with f2 := l } := by
   unfold hdW bitF
   rw [show ((2 ^ 2 : Nat) : Int) = 4 from rfl] at hb

   simp [hb]
  rw [e]
  exact hx.s2
 ·
  have e : hdW t l h (3 + 1) = { hdW t l h 3 with f3 := l } := by
   unfold hdW bitF
   rw [show ((2 ^ 3 : Nat) : Int) = 8 from rfl] at hb

   simp [hb]
  rw [e]
  exact hx.s3
 ·
  have e : hdW t l h (4 + 1) = { hdW t l h 4 with f4 := l } := by
   unfold hdW bitF
   rw [show ((2 ^ 4 : Nat) : Int) = 16 from rfl] at hb

   simp [hb]
  rw [e]
  exact hx.s4
 ·
  have e : hdW t l h (5 + 1) = { hdW t l h 5 with f5 := l } := by
   unfold hdW bitF
   rw [show ((2 ^ 5 : Nat) : Int) = 32 from rfl] at hb

   simp [hb]
  rw [e]
  exact hx.s5
theorem hdW_skip {t : Ty} {l : Int} {h : Hd} {i g : Nat} {w : World} {T : TypeId} {a b : Value} (hi : i < 6) (hb : ¬ (t.flat.tdiv ((2 ^ i : Nat) : Int)).tmod 2 = 0) (hx : CBox w g T ⟨hdW t l h i, a, b⟩) : CBox w g T ⟨hdW t l h (i + 1), a, b⟩ := by
 rcases (by omega : i = 0 ∨ i = 1 ∨ i = 2 ∨ i = 3 ∨ i = 4 ∨ i = 5) with rfl | rfl | rfl | rfl | rfl | rfl
 ·
  have e : hdW t l h (0 + 1) = hdW t l h 0 := by
   unfold hdW bitF
   rw [show ((2 ^ 0 : Nat) : Int) = 1 from rfl] at hb
   have hb2 : ¬ t.flat.tmod 2 = 0 := by simpa using hb
   simp [hb2]
  rw [e]
  exact hx
 ·
  have e : hdW t l h (1 + 1) = hdW t l h 1 := by
   unfold hdW bitF
   rw [show ((2 ^ 1 : Nat) : Int) = 2 from rfl] at hb

   simp [hb]
  rw [e]
  exact hx
 ·
  have e : hdW t l h (2 + 1) = hdW t l h 2 := by
   unfold hdW bitF
   rw [show ((2 ^ 2 : Nat) : Int) = 4 from rfl] at hb

   simp [hb]
  rw [e]
  exact hx
 ·
  have e : hdW t l h (3 + 1) = hdW t l h 3 := by
   unfold hdW bitF
   rw [show ((2 ^ 3 : Nat) : Int) = 8 from rfl] at hb

   simp [hb]
  rw [e]
  exact hx
 ·
  have e : hdW t l h (4 + 1) = hdW t l h 4 := by
   unfold hdW bitF
   rw [show ((2 ^ 4 : Nat) : Int) = 16 from rfl] at hb

   simp [hb]
  rw [e]
  exact hx
 ·
  have e : hdW t l h (5 + 1) = hdW t l h 5 := by
   unfold hdW bitF
   rw [show ((2 ^ 5 : Nat) : Int) = 32 from rfl] at hb

   simp [hb]
  rw [e]
  exact hx

theorem bit_all : ∀ f : Fin 64, ∀ i : Fin 6, (bits .and .i64 ((f.val : Int) / ((2 ^ i.val : Nat) : Int)) 1 == 0) = decide (((f.val : Int).tdiv ((2 ^ i.val : Nat) : Int)).tmod 2 = 0) := by decide +kernel
theorem bit_form {f : Int} (h : 0 ≤ f ∧ f ≤ 63) (i : Nat) (hi : i < 6) : (bits .and .i64 (f / ((2 ^ i : Nat) : Int)) 1 == 0) = decide ((f.tdiv ((2 ^ i : Nat) : Int)).tmod 2 = 0) := by
 have := bit_all ⟨f.toNat, by omega⟩ ⟨i, hi⟩
 rwa [show ((f.toNat : Nat) : Int) = f by omega] at this
theorem Stay.but7 {N : Nat → Prop} {w a b : World} {r : Nat} (h : Stay N w a) (k : But r a b) (hr : w.heap.size ≤ r) : Stay N w b :=
 ⟨k.os.trans h.os, k.tape.trans h.tape, k.output.trans h.output, Nat.le_trans h.size k.size, fun i hi hn => (k.block i (Nat.lt_of_lt_of_le hi h.size) (by omega)).trans (h.block i hi hn)⟩
theorem BoxAt.but7 {w w' : World} {g r : Nat} {a : Bool} {f p k : Int} {pv fv : Value} (h : BoxAt w g a f p pv k fv) (hb : But r w w') (hn : g ≠ r) : BoxAt w' g a f p pv k fv := (hb.block g h.lt hn).trans h
theorem VarIs.but7 {w w' : World} {g r : Nat} {T : TypeId} {v : Value} (h : VarIs w g T v) (hb : But r w w') (hn : g ≠ r) : VarIs w' g T v := (hb.block g h.lt hn).trans h
theorem has_ok {t : Ty} (h : headOK t = true) : hasPr7 t.pair t.pairs.length = decide (t.pair ≠ 0) ∧ hasFr7 t.fn t.funs.length = decide (t.fn ≠ 0) := by
 have hh : 0 ≤ t.pair ∧ t.pair ≤ 2 ∧ 0 ≤ t.fn ∧ t.fn ≤ 2 ∧ (t.pairs.length : Int) = (if t.pair = 1 then 2 else if t.pair = 2 then 1 else 0) ∧ (t.fn ≠ 1 → t.funs.length = 0) ∧ (t.fn = 1 → 1 ≤ t.funs.length ∧ t.funs.length ≤ 9) := by
  unfold headOK at h
  rw [decide_eq_true_iff] at h
  exact ⟨h.2.2.1, h.2.2.2.1, h.2.2.2.2.1, h.2.2.2.2.2.1, h.2.2.2.2.2.2.2.1, h.2.2.2.2.2.2.2.2⟩
 obtain ⟨a1, a2, a3, a4, a5, a6, a7⟩ := hh
 constructor
 ·
  unfold hasPr7
  rcases (by omega : t.pair = 0 ∨ t.pair = 1 ∨ t.pair = 2) with e | e | e
  ·
   rw [e]; simp
  ·
   rw [e] at a5 ⊢; simp at a5; simp; omega
  ·
   rw [e] at a5 ⊢; simp at a5; simp; omega
 ·
  unfold hasFr7
  rcases (by omega : t.fn = 0 ∨ t.fn = 1 ∨ t.fn = 2) with e | e | e
  ·
   rw [e]; simp
  ·
   have := a7 e; rw [e]; simp; omega
  ·
   rw [e]; simp

set_option maxRecDepth 100000 in
set_option maxHeartbeats 16000000 in
theorem top_succ (M n : Nat) (hM : M ≤ 2147483647) (ihT : GoOK true M n) (ihF : GoOK false M n) : GoOK true M (n + 1) := by
 intro t vt w cw k d l hdp hk hd hl hw ht
 rw [show (if true = true then 60 else 62 : Nat) = 60 from rfl]
 have hmf0 : ∀ (fn : Fn) (first cap : Array Value) (w : World), (Instr.makeFunc fn first cap).run Tryd.prog w = .ok (.func fn first cap) w := fun _ _ _ _ => rfl
 rw [deepF_succ, Bool.and_eq_true, Bool.and_eq_true, List.all_eq_true, List.all_eq_true] at hdp
 have hok := hdp.1.1
 have hsz0 := szT_eq t
 have hpos := szT_pos t
 have hres0 := go_all0 n true t l hok
 have hres1 := goC_tw n t l hok hl
 have hwrap : ∀ (w1 : World), WalkC M cw (k + 1) w1 → (w.heap.size + 1 + 1 + 1 + 1) < w1.heap.size → cw < w.heap.size → VarIs w1 w.heap.size 66 (.pointer (some ⟨cw, 0, none⟩)) → VarIs w1 (w.heap.size + 1 + 1) 3 (.int .i64 l) → VarIs w1 (w.heap.size + 1 + 1 + 1) 3 (.int .i64 (d : Int)) → TyVN (· = cw) w1 vt t →
   Calls Tryd.prog 80 #[vt, .int .i64 l, .func (.func 81) #[] #[.pointer (some ⟨w.heap.size, 0, none⟩), .pointer (some ⟨(w.heap.size + 1 + 1), 0, none⟩), .pointer (some ⟨(w.heap.size + 1 + 1 + 1), 0, none⟩)], .func (.func 82) #[] #[.pointer (some ⟨w.heap.size, 0, none⟩), .pointer (some ⟨(w.heap.size + 1 + 1), 0, none⟩), .pointer (some ⟨(w.heap.size + 1 + 1 + 1), 0, none⟩)]] w1
   (WrPost (· = cw) (GoAt M cw w.heap.size (w.heap.size + 1 + 1) (w.heap.size + 1 + 1 + 1) d l) (k + szT t) (wrC l t (t.pairs.map fun x => goC n true x l) (((List.range (t.funs.length - 1)).map fun i => goC n false (t.funs.getD i ty0) l) ++ [goC n true (t.funs.getD (t.funs.length - 1) ty0) l])) w1) := fun w1 h1 h2 h3 h4 h5 h6 h7 => by
  have F1 := GoAt.fn (W0 := w1) (M := M) (cw := cw) (g1 := w.heap.size) (g2 := (w.heap.size + 1 + 1)) (g3 := (w.heap.size + 1 + 1 + 1)) (d := d) (n := n) (l := l) true 81 _ ⟨by omega, by omega, by omega⟩ (by omega) hl ihT rfl (fun _ _ => rfl) (fun k sz c t vt w a1 a2 a3 a4 a5 a6 a7 => to1_clo M cw k sz c t vt w _ _ _ d l a1 a2 a3 a4 a5 a6 a7)
  have F2 := GoAt.fn (W0 := w1) (M := M) (cw := cw) (g1 := w.heap.size) (g2 := (w.heap.size + 1 + 1)) (g3 := (w.heap.size + 1 + 1 + 1)) (d := d) (n := n) (l := l) false 82 _ ⟨by omega, by omega, by omega⟩ (by omega) hl ihF rfl (fun _ _ => rfl) (fun k sz c t vt w a1 a2 a3 a4 a5 a6 a7 => to2_clo M cw k sz c t vt w _ _ _ d l a1 a2 a3 a4 a5 a6 a7)
  have hC := wrapping_any F1 F2 (fun s w w' h hs => ⟨VarIs.stay h.walk hs (by have := h1.lt; omega), h.ptr.stay hs (by omega), h.lab.stay hs (by omega), h.lvl.stay hs (by omega)⟩) (fun b hb => by rw [hb]; exact h1.lt) t vt w1 (k + 1) l .refl ⟨h1, h4, h5, h6⟩ h7 hok hdp.1.2 hdp.2 (by omega)
  rw [show k + 1 + szTs t.pairs + szTs t.funs = k + szT t by omega] at hC
  exact hC
 obtain ⟨sz, hszz⟩ : ∃ n, n = szT t := ⟨_, rfl⟩
 rw [← hszz] at hwrap hk hsz0 hpos ⊢
 obtain ⟨R, hR⟩ : ∃ R, R = goC (n + 1) true t l := ⟨_, rfl⟩
 rw [← hR] at hres0 hres1 ⊢
 obtain ⟨C, hC⟩ : ∃ C, C = wrC l t (t.pairs.map fun x => goC n true x l) (((List.range (t.funs.length - 1)).map fun i => goC n false (t.funs.getD i ty0) l) ++ [goC n true (t.funs.getD (t.funs.length - 1) ty0) l]) := ⟨_, rfl⟩
 rw [← hC] at hwrap hres1
 have hflat : 0 ≤ t.flat ∧ t.flat ≤ 63 := by have h := hok; unfold headOK at h; rw [decide_eq_true_iff] at h; exact ⟨h.1, h.2.1⟩
 have hC0 : C.h.f0 = 0 ∧ C.h.f1 = 0 ∧ C.h.f2 = 0 ∧ C.h.f3 = 0 ∧ C.h.f4 = 0 ∧ C.h.f5 = 0 := by rw [hC]; exact ⟨rfl, rfl, rfl, rfl, rfl, rfl⟩
 have hcP := fun pa np pc fa nf fc => hasP7_raw t.all t.flat t.pair pa np pc t.fn fa nf fc
 have hcF := fun pa np pc fa nf fc => hasF7_raw t.all t.flat t.pair pa np pc t.fn fa nf fc
 have hPF := has_ok hok
 obtain ⟨pa, pc, fa, fc, rfl, hp, hf⟩ := ht.form
 obtain ⟨np, hnp⟩ : ∃ n, n = t.pairs.length := ⟨_, rfl⟩
 obtain ⟨nf, hnf⟩ : ∃ n, n = t.funs.length := ⟨_, rfl⟩
 rw [← hnp, ← hnf] at hwrap ht ⊢
 rw [← hnp, ← hnf] at hPF
 obtain ⟨W, hW⟩ : ∃ W, W = (((((w.alloc (.cells #[.pointer (some ⟨cw, 0, none⟩)] 66)).alloc (.cells #[.bool t.all, .int .i64 t.flat, .int .i64 t.pair, .slice pa np pc, .int .i64 t.fn, .slice fa nf fc] 47)).alloc (.cells #[.int .i64 l] 3)).alloc (.cells #[.int .i64 (d : Int)] 3)).alloc (.cells #[.int .i64 0, .int .i64 0, .int .i64 0, .int .i64 0, .int .i64 0, .int .i64 0, .int .i64 0, .int .i64 0, .slice none 0 0, .int .i64 0, .int .i64 0, .slice none 0 0] 25)) := ⟨_, rfl⟩
 have hsz : W.heap.size = w.heap.size + 1 + 1 + 1 + 1 + 1 := by rw [hW]; simp
 have hb : Below w.heap.size w W := by rw [hW]; exact ((((bAl _ _).alloc (by simp) _).alloc (by simp; omega) _).alloc (by simp; omega) _).alloc (by simp; omega) _
 have HP0 := hid (show VarIs W w.heap.size 66 (.pointer (some ⟨cw, 0, none⟩)) by rw [hW]; exact (((((VarIs.made w 66 (.pointer (some ⟨cw, 0, none⟩))).keep ((Below.refl _ _).alloc (Nat.le_refl _) (.cells #[.bool t.all, .int .i64 t.flat, .int .i64 t.pair, .slice pa np pc, .int .i64 t.fn, .slice fa nf fc] 47))).keep ((Below.refl _ _).alloc (Nat.le_refl _) (.cells #[.int .i64 l] 3))).keep ((Below.refl _ _).alloc (Nat.le_refl _) (.cells #[.int .i64 (d : Int)] 3))).keep ((Below.refl _ _).alloc (Nat.le_refl _) (.cells #[.int .i64 0, .int .i64 0, .int .i64 0, .int .i64 0, .int .i64 0, .int .i64 0, .int .i64 0, .int .i64 0, .slice none 0 0, .int .i64 0, .int .i64 0, .slice none 0 0] 25))))
 have HT1 := hid (show BoxAt W (w.heap.size + 1) t.all t.flat t.pair (.slice pa np pc) t.fn (.slice fa nf fc) by rw [hW]; have := ((((BoxAt.made (w.alloc (.cells #[.pointer (some ⟨cw, 0, none⟩)] 66)) t.all t.flat t.pair (.slice pa np pc) t.fn (.slice fa nf fc)).keep ((Below.refl _ _).alloc (Nat.le_refl _) (.cells #[.int .i64 l] 3))).keep ((Below.refl _ _).alloc (Nat.le_refl _) (.cells #[.int .i64 (d : Int)] 3))).keep ((Below.refl _ _).alloc (Nat.le_refl _) (.cells #[.int .i64 0, .int .i64 0, .int .i64 0, .int .i64 0, .int .i64 0, .int .i64 0, .int .i64 0, .int .i64 0, .slice none 0 0, .int .i64 0, .int .i64 0, .slice none 0 0] 25))); simp only [alloc_hs7] at this; exact this)
 have HL2 := hid (show VarIs W (w.heap.size + 1 + 1) 3 (.int .i64 l) by rw [hW]; have := (((VarIs.made ((w.alloc (.cells #[.pointer (some ⟨cw, 0, none⟩)] 66)).alloc (.cells #[.bool t.all, .int .i64 t.flat, .int .i64 t.pair, .slice pa np pc, .int .i64 t.fn, .slice fa nf fc] 47)) 3 (.int .i64 l)).keep ((Below.refl _ _).alloc (Nat.le_refl _) (.cells #[.int .i64 (d : Int)] 3))).keep ((Below.refl _ _).alloc (Nat.le_refl _) (.cells #[.int .i64 0, .int .i64 0, .int .i64 0, .int .i64 0, .int .i64 0, .int .i64 0, .int .i64 0, .int .i64 0, .slice none 0 0, .int .i64 0, .int .i64 0, .slice none 0 0] 25))); simp only [alloc_hs7] at this; exact this)
 have HD3 := hid (show VarIs W (w.heap.size + 1 + 1 + 1) 3 (.int .i64 (d : Int)) by rw [hW]; have := ((VarIs.made (((w.alloc (.cells #[.pointer (some ⟨cw, 0, none⟩)] 66)).alloc (.cells #[.bool t.all, .int .i64 t.flat, .int .i64 t.pair, .slice pa np pc, .int .i64 t.fn, .slice fa nf fc] 47)).alloc (.cells #[.int .i64 l] 3)) 3 (.int .i64 (d : Int))).keep ((Below.refl _ _).alloc (Nat.le_refl _) (.cells #[.int .i64 0, .int .i64 0, .int .i64 0, .int .i64 0, .int .i64 0, .int .i64 0, .int .i64 0, .int .i64 0, .slice none 0 0, .int .i64 0, .int .i64 0, .slice none 0 0] 25))); simp only [alloc_hs7] at this; exact this)
 have HR4 := hid (show CBox W (w.heap.size + 1 + 1 + 1 + 1) 25 ⟨⟨0, 0, 0, 0, 0, 0, 0, 0, 0, 0⟩, .slice none 0 0, .slice none 0 0⟩ by rw [hW]; have := CBox.made ((((w.alloc (.cells #[.pointer (some ⟨cw, 0, none⟩)] 66)).alloc (.cells #[.bool t.all, .int .i64 t.flat, .int .i64 t.pair, .slice pa np pc, .int .i64 t.fn, .slice fa nf fc] 47)).alloc (.cells #[.int .i64 l] 3)).alloc (.cells #[.int .i64 (d : Int)] 3)) 25 ⟨⟨0, 0, 0, 0, 0, 0, 0, 0, 0, 0⟩, .slice none 0 0, .slice none 0 0⟩; simp only [alloc_hs7] at this; exact this)
 have HB := hid hb
 have HSZ := hid hsz
 have HW := hid hW
 have HWK := hid (hw.keep hb)
 have HCW := hid hw.lt
 have HTV := hid (ht.below hb)
 have HRES0 := hid hres0
 have HRES1 := hid hres1
 have HWR := hid hwrap
 have HFL := hid hflat
 have HC0 := hid hC0
 have HCP := hid (hcP pa np pc fa nf fc)
 have HCF := hid (hcF pa np pc fa nf fc)
 rw [hPF.1] at HCP
 rw [hPF.2] at HCF
 have HBD := hid (show k + sz ≤ M ∧ d + 1 + n ≤ 131000 ∧ M ≤ 2147483647 ∧ 1 ≤ sz from ⟨hk, by omega, hM, hpos⟩)
 have hd2 : (d : Int) ≤ 131000 := by omega
 clear hC hwrap hres0 hres1 hdp hok hsz0 hpos hk hd hl hM hb hsz hW hw ht hp hf hnp hnf hR ihT ihF hszz hflat hC0 hcP hcF hPF
 obtain ⟨x0, x1, x2, x3, x4, x5⟩ := HT1.out.cs
 (try dsimp only at x0 x1 x2 x3 x4 x5)
 have p0 : W.cell? ⟨w.heap.size, 0, none⟩ = some (.pointer (some ⟨cw, 0, none⟩)) := HP0.out.c
 have p3 : W.cell? ⟨(w.heap.size + 1 + 1 + 1), 0, none⟩ = some (.int .i64 (d : Int)) := HD3.out.c
 go_enter Tryd.func60, Tryd.ntmps60
 go_upto_region 1 with fail
 rw [← HW.out]
 clear HW
 obtain ⟨a, ha⟩ : ∃ a, a = t.all := ⟨_, rfl⟩
 rw [← ha] at x0 HWR HT1 HCP HCF
 have HA := hid ha
 clear ha
 cases a with
 | true =>
  have HRE := hid (HRES0.out HA.out.symm)
  obtain ⟨r0, r1, r2, r3, r4, r5, r6, r7, r8, r9, r10, r11⟩ := HR4.out.cs
  (try dsimp only at r0 r1 r2 r3 r4 r5 r6 r7 r8 r9 r10 r11)
  obtain ⟨fr0, fr1, fr2, fr3, fr4, fr5, fr6, fr7, fr8, fr9, fr10, fr11⟩ := HR4.out.frs
  go_wp2
  have HPOST := hid (show WPost M cw k sz R w (.returned (coV ⟨⟨0, 0, 0, 0, 0, 0, 0, 0, 0, 0⟩, .slice none 0 0, .slice none 0 0⟩)) (set12 (W) (w.heap.size + 1 + 1 + 1 + 1) ⟨⟨0, 0, 0, 0, 0, 0, 0, 0, 0, 0⟩, .slice none 0 0, .slice none 0 0⟩) from by rw [HRE.out]; exact WPost.cell (w1 := W) (co0_v _ _) (by omega) (by have := HSZ.out; omega) (.of HB.out) (Nat.le_add_right k sz) HWK.out HCW.out)
  refine ret12 (W) (w.heap.size + 1 + 1 + 1 + 1) ⟨⟨0, 0, 0, 0, 0, 0, 0, 0, 0, 0⟩, .slice none 0 0, .slice none 0 0⟩ (HR4.out) HPOST.out (fun wf hb => ?_) rfl
  obtain ⟨z0, z1, z2, z3, z4, z5, z6, z7, z8, z9, z10, z11⟩ := hb.cs
  simp [results, Tryd.results60, go_sem, coV, z0, z1, z2, z3, z4, z5, z6, z7, z8, z9, z10, z11]
 | false =>
  have HRE := hid (HRES1.out HA.out.symm)
  go_wp2_with fail
  refine (onc_any M cw k d W HWK.out (by have := HBD.out; omega) HBD.out.2.2.1 (by omega)).mono ?_
  rintro e w2 ⟨rfl, hs2, hw2⟩
  have HT2 := hid (HT1.out.stay hs2 (by have := HCW.out; omega))
  have HR2 := hid (HR4.out.stay hs2 (by have := HCW.out; omega))
  have HLB2 := hid (HL2.out.stay hs2 (by have := HCW.out; omega))
  have HS2 := hid (show Stay (· = cw) w w2 from (Stay.of HB.out).trans hs2)
  have HC2 := hid (HWR.out w2 hw2 (by have := hs2.size; have := HSZ.out; omega) HCW.out (HP0.out.stay hs2 (by have := HCW.out; omega)) (HL2.out.stay hs2 (by have := HCW.out; omega)) (HD3.out.stay hs2 (by have := HCW.out; omega)) (by have h := HTV.out.stay hs2; rw [← HA.out] at h; exact h))
  have HSZ2 := hid (show (w.heap.size + 1 + 1 + 1 + 1) < w2.heap.size by have := hs2.size; have := HSZ.out; omega)
  clear hs2 hw2 x0 x1 x2 x3 x4 x5 p0 p3
  obtain ⟨x0, x1, x2, x3, x4, x5⟩ := HT2.out.cs
  (try dsimp only at x0 x1 x2 x3 x4 x5)
  have p2 : w2.cell? ⟨(w.heap.size + 1 + 1), 0, none⟩ = some (.int .i64 l) := HLB2.out.c
  go_wp2_with fail
  refine HC2.out.mono ?_
  rintro e w3 ⟨⟨v, rfl, hv⟩, hs3, k3, hk3, hst3⟩
  obtain ⟨ra, rc, rb, rd, rfl, hvp, hvf⟩ := hv.form
  obtain ⟨rn, hrn⟩ : ∃ n, n = C.pairs.length := ⟨_, rfl⟩
  obtain ⟨rm, hrm⟩ : ∃ n, n = C.funs.length := ⟨_, rfl⟩
  rw [← hrn] at hvp ⊢
  rw [← hrm] at hvf ⊢
  obtain ⟨hh, hhe⟩ : ∃ h, h = C.h := ⟨_, rfl⟩
  rw [← hhe] at HC0 ⊢
  have HHE := hid hhe
  obtain ⟨g9, hg9⟩ : ∃ g, g = w3.heap.size := ⟨_, rfl⟩
  obtain ⟨W5, hW5⟩ : ∃ W5, W5 = w3.alloc (.cells #[.int .i64 hh.f0, .int .i64 hh.f1, .int .i64 hh.f2, .int .i64 hh.f3, .int .i64 hh.f4, .int .i64 hh.f5, .int .i64 hh.pair, .int .i64 hh.pl, .slice ra rn rc, .int .i64 hh.fn, .int .i64 hh.fl, .slice rb rm rd] 25) := ⟨_, rfl⟩
  have hb5 : Below w3.heap.size w3 W5 := by rw [hW5]; exact bAl _ _
  have HB9 := hid (show CBox W5 g9 25 ⟨hdW t l hh 0, .slice ra rn rc, .slice rb rm rd⟩ by
   have h0 : hdW t l hh 0 = hh := Hd.ext' ⟨HC0.out.1.symm, HC0.out.2.1.symm, HC0.out.2.2.1.symm, HC0.out.2.2.2.1.symm, HC0.out.2.2.2.2.1.symm, HC0.out.2.2.2.2.2.symm, rfl, rfl, rfl, rfl⟩
   rw [hW5, hg9, h0]; exact CBox.made w3 25 ⟨hh, .slice ra rn rc, .slice rb rm rd⟩)
  have HVP := hid (CoSN.later (M := fun b => Old w2.heap.size b ∨ b = g9) hvp hb5 fun x h => h.elim .inl fun h => .inr (by rw [h, hg9]; exact Nat.le_refl _))
  have HVF := hid (CoSN.later (M := fun b => Old w2.heap.size b ∨ b = g9) hvf hb5 fun x h => h.elim .inl fun h => .inr (by rw [h, hg9]; exact Nat.le_refl _))
  have HT5 := hid ((HT2.out.stay hs3 (by have := HCW.out; omega)).keep hb5)
  have HR5 := hid ((HR2.out.stay hs3 (by have := HCW.out; omega)).keep hb5)
  have HLB5 := hid ((HLB2.out.stay hs3 (by have := HCW.out; omega)).keep hb5)
  have HS5 := hid ((HS2.out.trans hs3).then hb5)
  have HK5 := hid hk3
  have HW5K := hid (hst3.walk.keep hb5)
  have HG9 := hid (show (w.heap.size + 1 + 1 + 1 + 1) < g9 ∧ w2.heap.size ≤ g9 ∧ g9 < W5.heap.size by rw [hg9]; have := hs3.size; have := HSZ2.out; exact ⟨by omega, by omega, by rw [hW5, alloc_hs7]; omega⟩)
  have HG99 := hid hg9
  have HWW5 := hid hW5
  have HRN := hid hrn
  have HRM := hid hrm
  clear hv hs3 hk3 hst3 x0 x1 x2 x3 x4 x5 hvp hvf hrn hrm hhe hg9 hW5 hb5 p2 HC2 HWR HT2 HR2 HLB2
  go_upto_region 5 with fail
  rw [← HWW5.out, ← HG99.out]
  go_loopw [10, 25] (fun _ iv wr => ∃ i : Nat, i ≤ 6 ∧ iv = .int .i64 i ∧ Hid (CBox wr g9 25 ⟨hdW t l hh i, .slice ra rn rc, .slice rb rm rd⟩) ∧ Hid (But g9 W5 wr)) (fun _ iv _ => 6 - (intOf iv).toNat)
  case atStart => exact ⟨0, Nat.zero_le _, rfl, HB9, hid (But.refl _ _)⟩
  case round =>
   obtain ⟨i, hi1, rfl, HCB, HBU⟩ := hrel
   have x1 : wr.cell? ⟨(w.heap.size + 1), 1, none⟩ = some (.int .i64 t.flat) := (HT5.out.but7 HBU.out (by have := HG9.out; omega)).c1
   have p2 : wr.cell? ⟨(w.heap.size + 1 + 1), 0, none⟩ = some (.int .i64 l) := (VarIs.but7 HLB5.out HBU.out (by have := HG9.out; omega)).c
   by_cases hlt : i < 6
   ·
    have hc := HCB.out.flat hlt
    have hf := HCB.out.fr i
    have hi0 : (0 : Int) ≤ (i : Int) := Int.natCast_nonneg _
    have hi2 : (i : Int) < 6 := by omega
    have HLT := hid hlt
    clear hi1
    by_cases hbit : (t.flat.tdiv ((2 ^ i : Nat) : Int)).tmod 2 = 0
    ·
     have HBIT := hid hbit
     clear hbit
     rcases (by omega : i = 0 ∨ i = 1 ∨ i = 2 ∨ i = 3 ∨ i = 4 ∨ i = 5) with rfl | rfl | rfl | rfl | rfl | rfl
     ·
      have hb2 : (bits .and .i64 (t.flat) 1 == 0) = true := by
       have h := bit_form HFL.out 0 (by omega)
       rw [show ((2 ^ 0 : Nat) : Int) = 1 from rfl, Int.ediv_one] at h
       rw [h]; exact decide_eq_true HBIT.out
      go_wp2
      exact ⟨⟨0 + 1, by omega, by go_num, hid (hdW_store (i := 0) (by omega) HBIT.out HCB.out), hid (HBU.out.set _ _)⟩, by simp [intOf]⟩
     ·
      have hb2 : (bits .and .i64 (t.flat / 2) 1 == 0) = true := by
       have h := bit_form HFL.out 1 (by omega)
       rw [show ((2 ^ 1 : Nat) : Int) = 2 from rfl] at h
       rw [h]; exact decide_eq_true HBIT.out
      go_wp2
      exact ⟨⟨1 + 1, by omega, by go_num, hid (hdW_store (i := 1) (by omega) HBIT.out HCB.out), hid (HBU.out.set _ _)⟩, by simp [intOf]⟩
     ·
      have hb2 : (bits .and .i64 (t.flat / 4) 1 == 0) = true := by
       have h := bit_form HFL.out 2 (by omega)
       rw [show ((2 ^ 2 : Nat) : Int) = 4 from rfl] at h
       rw [h]; exact decide_eq_true HBIT.out
      go_wp2
      exact ⟨⟨2 + 1, by omega, by go_num, hid (hdW_store (i := 2) (by omega) HBIT.out HCB.out), hid (HBU.out.set _ _)⟩, by simp [intOf]⟩
     ·
      have hb2 : (bits .and .i64 (t.flat / 8) 1 == 0) = true := by
       have h := bit_form HFL.out 3 (by omega)
       rw [show ((2 ^ 3 : Nat) : Int) = 8 from rfl] at h
       rw [h]; exact decide_eq_true HBIT.out
      go_wp2
      exact ⟨⟨3 + 1, by omega, by go_num, hid (hdW_store (i := 3) (by omega) HBIT.out HCB.out), hid (HBU.out.set _ _)⟩, by simp [intOf]⟩
     ·
      have hb2 : (bits .and .i64 (t.flat / 16) 1 == 0) = true := by
       have h := bit_form HFL.out 4 (by omega)
       rw [show ((2 ^ 4 : Nat) : Int) = 16 from rfl] at h
       rw [h]; exact decide_eq_true HBIT.out
      go_wp2
      exact ⟨⟨4 + 1, by omega, by go_num, hid (hdW_store (i := 4) (by omega) HBIT.out HCB.out), hid (HBU.out.set _ _)⟩, by simp [intOf]⟩
     ·
      have hb2 : (bits .and .i64 (t.flat / 32) 1 == 0) = true := by
       have h := bit_form HFL.out 5 (by omega)
       rw [show ((2 ^ 5 : Nat) : Int) = 32 from rfl] at h
       rw [h]; exact decide_eq_true HBIT.out
      go_wp2
      exact ⟨⟨5 + 1, by omega, by go_num, hid (hdW_store (i := 5) (by omega) HBIT.out HCB.out), hid (HBU.out.set _ _)⟩, by simp [intOf]⟩
    ·
     have HBIT := hid hbit
     clear hbit
     rcases (by omega : i = 0 ∨ i = 1 ∨ i = 2 ∨ i = 3 ∨ i = 4 ∨ i = 5) with rfl | rfl | rfl | rfl | rfl | rfl
     ·
      have hb2 : (bits .and .i64 (t.flat) 1 == 0) = false := by
       have h := bit_form HFL.out 0 (by omega)
       rw [show ((2 ^ 0 : Nat) : Int) = 1 from rfl, Int.ediv_one] at h
       rw [h]; exact decide_eq_false HBIT.out
      go_wp2
      exact ⟨⟨0 + 1, by omega, by go_num, hid (hdW_skip (i := 0) (by omega) HBIT.out HCB.out), HBU⟩, by simp [intOf]⟩
     ·
      have hb2 : (bits .and .i64 (t.flat / 2) 1 == 0) = false := by
       have h := bit_form HFL.out 1 (by omega)
       rw [show ((2 ^ 1 : Nat) : Int) = 2 from rfl] at h
       rw [h]; exact decide_eq_false HBIT.out
      go_wp2
      exact ⟨⟨1 + 1, by omega, by go_num, hid (hdW_skip (i := 1) (by omega) HBIT.out HCB.out), HBU⟩, by simp [intOf]⟩
     ·
      have hb2 : (bits .and .i64 (t.flat / 4) 1 == 0) = false := by
       have h := bit_form HFL.out 2 (by omega)
       rw [show ((2 ^ 2 : Nat) : Int) = 4 from rfl] at h
       rw [h]; exact decide_eq_false HBIT.out
      go_wp2
      exact ⟨⟨2 + 1, by omega, by go_num, hid (hdW_skip (i := 2) (by omega) HBIT.out HCB.out), HBU⟩, by simp [intOf]⟩
     ·
      have hb2 : (bits .and .i64 (t.flat / 8) 1 == 0) = false := by
       have h := bit_form HFL.out 3 (by omega)
       rw [show ((2 ^ 3 : Nat) : Int) = 8 from rfl] at h
       rw [h]; exact decide_eq_false HBIT.out
      go_wp2
      exact ⟨⟨3 + 1, by omega, by go_num, hid (hdW_skip (i := 3) (by omega) HBIT.out HCB.out), HBU⟩, by simp [intOf]⟩
     ·
      have hb2 : (bits .and .i64 (t.flat / 16) 1 == 0) = false := by
       have h := bit_form HFL.out 4 (by omega)
       rw [show ((2 ^ 4 : Nat) : Int) = 16 from rfl] at h
       rw [h]; exact decide_eq_false HBIT.out
      go_wp2
      exact ⟨⟨4 + 1, by omega, by go_num, hid (hdW_skip (i := 4) (by omega) HBIT.out HCB.out), HBU⟩, by simp [intOf]⟩
     ·
      have hb2 : (bits .and .i64 (t.flat / 32) 1 == 0) = false := by
       have h := bit_form HFL.out 5 (by omega)
       rw [show ((2 ^ 5 : Nat) : Int) = 32 from rfl] at h
       rw [h]; exact decide_eq_false HBIT.out
      go_wp2
      exact ⟨⟨5 + 1, by omega, by go_num, hid (hdW_skip (i := 5) (by omega) HBIT.out HCB.out), HBU⟩, by simp [intOf]⟩
   ·
    have hi6 : i = 6 := by omega
    subst hi6
    clear hi1 hlt
    obtain ⟨hq, hhq⟩ : ∃ h : Hd, h = hdW t l hh 6 := ⟨_, rfl⟩
    rw [← hhq] at HCB
    have HQ := hid (show hq = ⟨bitF t.flat 1 l, bitF t.flat 2 l, bitF t.flat 4 l, bitF t.flat 8 l, bitF t.flat 16 l, bitF t.flat 32 l, hh.pair, hh.pl, hh.fn, hh.fl⟩ from hhq)
    clear hhq x1 p2
    have HBUr := HBU
    have HBXr := HCB
    have HLBr := hid (VarIs.but7 HLB5.out HBU.out (by have := HG9.out; omega))
    obtain ⟨x0, x1, x2, x3, x4, x5⟩ := (HT5.out.but7 HBUr.out (by have := HG9.out; omega)).cs
    (try dsimp only at x0 x1 x2 x3 x4 x5)
    go_wp2_with fail
    refine (HCP.out wr).mono ?_
    rintro e w7 ⟨rfl, hb7⟩
    have HBU7 := hid (HBUr.out.then hb7)
    have HBX7 := hid (HBXr.out.keep hb7)
    have HLB7 := hid (HLBr.out.keep hb7)
    clear hb7 x0 x1 x2 x3 x4 x5
    by_cases h0 : t.pair = 0
    ·
     have b0 : decide (t.pair ≠ 0) = false := decide_eq_false (fun h => h h0)
     rw [b0]
     have HP00 := hid h0
     clear h0 b0
     go_upto_region 11 with fail
     have hpl : w7.cell? ⟨(w.heap.size + 1 + 1), 0, none⟩ = some (.int .i64 l) := HLB7.out.c
     (try dsimp only [List.append])
     refine wp_region_noPanic ?_
     refine wp_region_held_drew (S := (fun w' => w'.cell? ⟨(w.heap.size + 1 + 1), 0, none⟩ = some (.int .i64 l))) (by kernel_rfl) (by (try dsimp only); exact hpl) (fun hHeld => ?_)
     have hdr : Below w7.heap.size w7 w7.drew := (Below.refl _ _).drew
     have HLBD := hid (HLB7.out.keep hdr)
     have HBXD := hid (HBX7.out.keep hdr)
     have HDR := hid hdr
     clear hdr hpl
     generalize w7.drew = wd at hHeld HLBD HBXD HDR ⊢
     have q1 : wd.cell? ⟨g9, 6, none⟩ = some (.int .i64 hq.pair) := HBXD.out.c6
     have qf1 : wd.frozen? ⟨g9, 6, none⟩ = false := HBXD.out.fr 6
     refine' tk_q 0 42 hHeld ?hi0 ?hr0
     case hi0 => (refine ⟨_, rfl, rfl, rfl, fun w hSw => ?_⟩; (try dsimp only at hSw); go_simp; (try with_reducible rfl))
     (try simp only [pq1, ls0, ls1])
     refine' tk_q 1 43 hHeld ?hi1 ?hr1
     case hi1 => (refine ⟨_, rfl, rfl, rfl, fun w hSw => ?_⟩; (try dsimp only at hSw); go_simp; (try with_reducible rfl))
     (try simp only [pq1, ls0, ls1])
     refine' tk_call 2 ?hi2 (by kernel_rfl) ?hr2
     case hi2 => rfl
     intro K hK
     go_simp
     have HBX1 := hid (show CBox (wd.setCell ⟨g9, 6, none⟩ (.int .i64 1)) g9 25 ⟨{ hq with pair := 1 }, .slice ra rn rc, .slice rb rm rd⟩ from HBXD.out.s6)
     clear hHeld
     refine hK.out _ _ (by (try dsimp only); exact (VarIs.off HLBD.out (by have := HG9.out; omega)).c) (fun hHeld => ?_)
     clear hK K
     (try simp only [pq1, ls0, ls1])
     have q2 : (wd.setCell ⟨g9, 6, none⟩ (.int .i64 1)).cell? ⟨g9, 7, none⟩ = some (.int .i64 hq.pl) := HBX1.out.c7
     have qf2 : (wd.setCell ⟨g9, 6, none⟩ (.int .i64 1)).frozen? ⟨g9, 7, none⟩ = false := HBX1.out.fr 7
     refine' tk_q 3 44 hHeld ?hi3 ?hr3
     case hi3 => (refine ⟨_, rfl, rfl, rfl, fun w hSw => ?_⟩; (try dsimp only at hSw); go_simp; (try with_reducible rfl))
     (try simp only [pq1, ls0, ls1])
     refine' tk_call 4 ?hi4 (by kernel_rfl) ?hr4
     case hi4 => rfl
     intro K hK
     go_simp
     have HBX2 := hid (show CBox ((wd.setCell ⟨g9, 6, none⟩ (.int .i64 1)).setCell ⟨g9, 7, none⟩ (.int .i64 l)) g9 25 ⟨{ hq with pair := 1, pl := l }, .slice ra rn rc, .slice rb rm rd⟩ from HBX1.out.s7)
     clear hHeld
     refine hK.out _ _ (by (try dsimp only); exact (VarIs.off (VarIs.off HLBD.out (by have := HG9.out; omega)) (by have := HG9.out; omega)).c) (fun hHeld => ?_)
     clear hK K
     (try simp only [pq1, ls0, ls1])
     refine wpAnyH_done (by kernel_rfl) ?_ _
     refine NoPanic.normal ?_
     obtain ⟨w8, hw8⟩ : ∃ x, x = (wd.setCell ⟨g9, 6, none⟩ (.int .i64 1)).setCell ⟨g9, 7, none⟩ (.int .i64 l) := ⟨_, rfl⟩
     rw [← hw8] at hHeld HBX2 ⊢
     have HBU8 := hid (show But g9 W5 w8 by rw [hw8]; exact (((HBU7.out).then HDR.out).set _ _).set _ _)
     have HLB8 := hid (VarIs.but7 HLB5.out HBU8.out (by have := HG9.out; omega))
     obtain ⟨hp, hhp⟩ : ∃ h : Hd, h = { hq with pair := 1, pl := l } := ⟨_, rfl⟩
     rw [← hhp] at HBX2
     have HQhp := hid hhp
     clear hhp
     have HBX8 := HBX2
     clear hHeld HBX1 HBX2 HBXD HLBD HDR q1 qf1 q2 qf2 hw8
     obtain ⟨x0, x1, x2, x3, x4, x5⟩ := (HT5.out.but7 HBU8.out (by have := HG9.out; omega)).cs
     (try dsimp only at x0 x1 x2 x3 x4 x5)
     go_wp2_with fail
     refine (HCF.out w8).mono ?_
     rintro e w9 ⟨rfl, hb9⟩
     have HBU9 := hid (HBU8.out.then hb9)
     have HBX9 := hid (HBX8.out.keep hb9)
     have HLB9 := hid (HLB8.out.keep hb9)
     clear hb9 x0 x1 x2 x3 x4 x5
     by_cases hf0 : t.fn = 0
     ·
      have b0 : decide (t.fn ≠ 0) = false := decide_eq_false (fun h => h hf0)
      rw [b0]
      have HF0 := hid hf0
      clear hf0 b0
      go_upto_region 13 with fail
      have hpl : w9.cell? ⟨(w.heap.size + 1 + 1), 0, none⟩ = some (.int .i64 l) := HLB9.out.c
      (try dsimp only [List.append])
      refine wp_region_noPanic ?_
      refine wp_region_held_drew (S := (fun w' => w'.cell? ⟨(w.heap.size + 1 + 1), 0, none⟩ = some (.int .i64 l))) (by kernel_rfl) (by (try dsimp only); exact hpl) (fun hHeld => ?_)
      have hdr : Below w9.heap.size w9 w9.drew := (Below.refl _ _).drew
      have HLBD := hid (HLB9.out.keep hdr)
      have HBXD := hid (HBX9.out.keep hdr)
      have HDR := hid hdr
      clear hdr hpl
      generalize w9.drew = wd at hHeld HLBD HBXD HDR ⊢
      have q1 : wd.cell? ⟨g9, 9, none⟩ = some (.int .i64 hp.fn) := HBXD.out.c9
      have qf1 : wd.frozen? ⟨g9, 9, none⟩ = false := HBXD.out.fr 9
      refine' tk_q 0 48 hHeld ?hi5 ?hr5
      case hi5 => (refine ⟨_, rfl, rfl, rfl, fun w hSw => ?_⟩; (try dsimp only at hSw); go_simp; (try with_reducible rfl))
      (try simp only [pq1, ls0, ls1])
      refine' tk_q 1 49 hHeld ?hi6 ?hr6
      case hi6 => (refine ⟨_, rfl, rfl, rfl, fun w hSw => ?_⟩; (try dsimp only at hSw); go_simp; (try with_reducible rfl))
      (try simp only [pq1, ls0, ls1])
      refine' tk_call 2 ?hi7 (by kernel_rfl) ?hr7
      case hi7 => rfl
      intro K hK
      go_simp
      have HBX1 := hid (show CBox (wd.setCell ⟨g9, 9, none⟩ (.int .i64 1)) g9 25 ⟨{ hp with fn := 1 }, .slice ra rn rc, .slice rb rm rd⟩ from HBXD.out.s9)
      clear hHeld
      refine hK.out _ _ (by (try dsimp only); exact (VarIs.off HLBD.out (by have := HG9.out; omega)).c) (fun hHeld => ?_)
      clear hK K
      (try simp only [pq1, ls0, ls1])
      have q2 : (wd.setCell ⟨g9, 9, none⟩ (.int .i64 1)).cell? ⟨g9, 10, none⟩ = some (.int .i64 hp.fl) := HBX1.out.c10
      have qf2 : (wd.setCell ⟨g9, 9, none⟩ (.int .i64 1)).frozen? ⟨g9, 10, none⟩ = false := HBX1.out.fr 10
      refine' tk_q 3 50 hHeld ?hi8 ?hr8
      case hi8 => (refine ⟨_, rfl, rfl, rfl, fun w hSw => ?_⟩; (try dsimp only at hSw); go_simp; (try with_reducible rfl))
      (try simp only [pq1, ls0, ls1])
      refine' tk_call 4 ?hi9 (by kernel_rfl) ?hr9
      case hi9 => rfl
      intro K hK
      go_simp
      have HBX2 := hid (show CBox ((wd.setCell ⟨g9, 9, none⟩ (.int .i64 1)).setCell ⟨g9, 10, none⟩ (.int .i64 l)) g9 25 ⟨{ hp with fn := 1, fl := l }, .slice ra rn rc, .slice rb rm rd⟩ from HBX1.out.s10)
      clear hHeld
      refine hK.out _ _ (by (try dsimp only); exact (VarIs.off (VarIs.off HLBD.out (by have := HG9.out; omega)) (by have := HG9.out; omega)).c) (fun hHeld => ?_)
      clear hK K
      (try simp only [pq1, ls0, ls1])
      refine wpAnyH_done (by kernel_rfl) ?_ _
      refine NoPanic.normal ?_
      obtain ⟨wz, hwz⟩ : ∃ x, x = (wd.setCell ⟨g9, 9, none⟩ (.int .i64 1)).setCell ⟨g9, 10, none⟩ (.int .i64 l) := ⟨_, rfl⟩
      rw [← hwz] at hHeld HBX2 ⊢
      have HBUz := hid (show But g9 W5 wz by rw [hwz]; exact (((HBU9.out).then HDR.out).set _ _).set _ _)
      have HLBz := hid (VarIs.but7 HLB5.out HBUz.out (by have := HG9.out; omega))
      obtain ⟨hz, hhz⟩ : ∃ h : Hd, h = { hp with fn := 1, fl := l } := ⟨_, rfl⟩
      rw [← hhz] at HBX2
      have HQhz := hid hhz
      clear hhz
      have HBXz := HBX2
      clear hHeld HBX1 HBX2 HBXD HLBD HDR q1 qf1 q2 qf2 hwz
      obtain ⟨y0, y1, y2, y3, y4, y5, y6, y7, y8, y9, y10, y11⟩ := HBXz.out.cs
      (try dsimp only at y0 y1 y2 y3 y4 y5 y6 y7 y8 y9 y10 y11)
      have HRZ := hid (HR5.out.but HBUz.out (by have := HG9.out; omega))
      obtain ⟨r0, r1, r2, r3, r4, r5, r6, r7, r8, r9, r10, r11⟩ := HRZ.out.cs
      (try dsimp only at r0 r1 r2 r3 r4 r5 r6 r7 r8 r9 r10 r11)
      obtain ⟨fr0, fr1, fr2, fr3, fr4, fr5, fr6, fr7, fr8, fr9, fr10, fr11⟩ := HRZ.out.frs
      have HSN := hid (show Stay (· = cw) w wz from HS5.out.but7 HBUz.out (by have := HG9.out; omega))
      have HWZ := hid (show WalkC M cw k3 wz from VarIs.but7 HW5K.out HBUz.out (by have := HG9.out; have := HCW.out; omega))
      have hvp := CoSN.but HVP.out HBUz.out (.inr rfl)
      have hvf := CoSN.but HVF.out HBUz.out (.inr rfl)
      have HRR := hid (show R = .mk hz C.pairs C.funs from by rw [HRE.out, HQhz.out, HQhp.out, HQ.out]; unfold goT; rw [HHE.out, if_pos HF0.out, if_pos HF0.out, if_pos HP00.out, if_pos HP00.out])
      have HVV := hid (show CoVN (Old w2.heap.size) wz (.agg #[.int .i64 hz.f0, .int .i64 hz.f1, .int .i64 hz.f2, .int .i64 hz.f3, .int .i64 hz.f4, .int .i64 hz.f5, .int .i64 hz.pair, .int .i64 hz.pl, .slice ra rn rc, .int .i64 hz.fn, .int .i64 hz.fl, .slice rb rm rd]) R by rw [HRR.out]; exact CoVN.mk (h := hz) (CoSN.mono hvp fun _ _ h => .inl h) (CoSN.mono hvf fun _ _ h => .inl h))
      clear hvp hvf
      go_wp2
      have HPOST := hid (show WPost M cw k sz R w (.returned (coV ⟨hz, .slice ra rn rc, .slice rb rm rd⟩)) (set12 (wz) (w.heap.size + 1 + 1 + 1 + 1) ⟨hz, .slice ra rn rc, .slice rb rm rd⟩) from WPost.cell (w1 := w2) HVV.out (by omega) HSZ2.out HSN.out HK5.out HWZ.out HCW.out)
      refine ret12 (wz) (w.heap.size + 1 + 1 + 1 + 1) ⟨hz, .slice ra rn rc, .slice rb rm rd⟩ (HRZ.out) HPOST.out (fun wf hb => ?_) rfl
      obtain ⟨z0, z1, z2, z3, z4, z5, z6, z7, z8, z9, z10, z11⟩ := hb.cs
      simp [results, Tryd.results60, go_sem, coV, z0, z1, z2, z3, z4, z5, z6, z7, z8, z9, z10, z11]
     ·
      have b0 : decide (t.fn ≠ 0) = true := decide_eq_true hf0
      rw [b0]
      have HF0 := hid hf0
      clear hf0 b0
      obtain ⟨y0, y1, y2, y3, y4, y5, y6, y7, y8, y9, y10, y11⟩ := HBX9.out.cs
      (try dsimp only at y0 y1 y2 y3 y4 y5 y6 y7 y8 y9 y10 y11)
      have HRZ := hid (HR5.out.but HBU9.out (by have := HG9.out; omega))
      obtain ⟨r0, r1, r2, r3, r4, r5, r6, r7, r8, r9, r10, r11⟩ := HRZ.out.cs
      (try dsimp only at r0 r1 r2 r3 r4 r5 r6 r7 r8 r9 r10 r11)
      obtain ⟨fr0, fr1, fr2, fr3, fr4, fr5, fr6, fr7, fr8, fr9, fr10, fr11⟩ := HRZ.out.frs
      have HSN := hid (show Stay (· = cw) w w9 from HS5.out.but7 HBU9.out (by have := HG9.out; omega))
      have HWZ := hid (show WalkC M cw k3 w9 from VarIs.but7 HW5K.out HBU9.out (by have := HG9.out; have := HCW.out; omega))
      have hvp := CoSN.but HVP.out HBU9.out (.inr rfl)
      have hvf := CoSN.but HVF.out HBU9.out (.inr rfl)
      have HRR := hid (show R = .mk hp C.pairs C.funs from by rw [HRE.out, HQhp.out, HQ.out]; unfold goT; rw [HHE.out, if_neg HF0.out, if_neg HF0.out, if_pos HP00.out, if_pos HP00.out])
      have HVV := hid (show CoVN (Old w2.heap.size) w9 (.agg #[.int .i64 hp.f0, .int .i64 hp.f1, .int .i64 hp.f2, .int .i64 hp.f3, .int .i64 hp.f4, .int .i64 hp.f5, .int .i64 hp.pair, .int .i64 hp.pl, .slice ra rn rc, .int .i64 hp.fn, .int .i64 hp.fl, .slice rb rm rd]) R by rw [HRR.out]; exact CoVN.mk (h := hp) (CoSN.mono hvp fun _ _ h => .inl h) (CoSN.mono hvf fun _ _ h => .inl h))
      clear hvp hvf
      go_wp2
      have HPOST := hid (show WPost M cw k sz R w (.returned (coV ⟨hp, .slice ra rn rc, .slice rb rm rd⟩)) (set12 (w9) (w.heap.size + 1 + 1 + 1 + 1) ⟨hp, .slice ra rn rc, .slice rb rm rd⟩) from WPost.cell (w1 := w2) HVV.out (by omega) HSZ2.out HSN.out HK5.out HWZ.out HCW.out)
      refine ret12 (w9) (w.heap.size + 1 + 1 + 1 + 1) ⟨hp, .slice ra rn rc, .slice rb rm rd⟩ (HRZ.out) HPOST.out (fun wf hb => ?_) rfl
      obtain ⟨z0, z1, z2, z3, z4, z5, z6, z7, z8, z9, z10, z11⟩ := hb.cs
      simp [results, Tryd.results60, go_sem, coV, z0, z1, z2, z3, z4, z5, z6, z7, z8, z9, z10, z11]
    ·
     have b0 : decide (t.pair ≠ 0) = true := decide_eq_true h0
     rw [b0]
     have HP00 := hid h0
     clear h0 b0
     obtain ⟨x0, x1, x2, x3, x4, x5⟩ := (HT5.out.but7 HBU7.out (by have := HG9.out; omega)).cs
     (try dsimp only at x0 x1 x2 x3 x4 x5)
     go_wp2_with fail
     refine (HCF.out w7).mono ?_
     rintro e w9 ⟨rfl, hb9⟩
     have HBU9 := hid (HBU7.out.then hb9)
     have HBX9 := hid (HBX7.out.keep hb9)
     have HLB9 := hid (HLB7.out.keep hb9)
     clear hb9 x0 x1 x2 x3 x4 x5
     by_cases hf0 : t.fn = 0
     ·
      have b0 : decide (t.fn ≠ 0) = false := decide_eq_false (fun h => h hf0)
      rw [b0]
      have HF0 := hid hf0
      clear hf0 b0
      go_upto_region 13 with fail
      have hpl : w9.cell? ⟨(w.heap.size + 1 + 1), 0, none⟩ = some (.int .i64 l) := HLB9.out.c
      (try dsimp only [List.append])
      refine wp_region_noPanic ?_
      refine wp_region_held_drew (S := (fun w' => w'.cell? ⟨(w.heap.size + 1 + 1), 0, none⟩ = some (.int .i64 l))) (by kernel_rfl) (by (try dsimp only); exact hpl) (fun hHeld => ?_)
      have hdr : Below w9.heap.size w9 w9.drew := (Below.refl _ _).drew
      have HLBD := hid (HLB9.out.keep hdr)
      have HBXD := hid (HBX9.out.keep hdr)
      have HDR := hid hdr
      clear hdr hpl
      generalize w9.drew = wd at hHeld HLBD HBXD HDR ⊢
      have q1 : wd.cell? ⟨g9, 9, none⟩ = some (.int .i64 hq.fn) := HBXD.out.c9
      have qf1 : wd.frozen? ⟨g9, 9, none⟩ = false := HBXD.out.fr 9
      refine' tk_q 0 48 hHeld ?hia ?hra
      case hia => (refine ⟨_, rfl, rfl, rfl, fun w hSw => ?_⟩; (try dsimp only at hSw); go_simp; (try with_reducible rfl))
      (try simp only [pq1, ls0, ls1])
      refine' tk_q 1 49 hHeld ?hib ?hrb
      case hib => (refine ⟨_, rfl, rfl, rfl, fun w hSw => ?_⟩; (try dsimp only at hSw); go_simp; (try with_reducible rfl))
      (try simp only [pq1, ls0, ls1])
      refine' tk_call 2 ?hic (by kernel_rfl) ?hrc
      case hic => rfl
      intro K hK
      go_simp
      have HBX1 := hid (show CBox (wd.setCell ⟨g9, 9, none⟩ (.int .i64 1)) g9 25 ⟨{ hq with fn := 1 }, .slice ra rn rc, .slice rb rm rd⟩ from HBXD.out.s9)
      clear hHeld
      refine hK.out _ _ (by (try dsimp only); exact (VarIs.off HLBD.out (by have := HG9.out; omega)).c) (fun hHeld => ?_)
      clear hK K
      (try simp only [pq1, ls0, ls1])
      have q2 : (wd.setCell ⟨g9, 9, none⟩ (.int .i64 1)).cell? ⟨g9, 10, none⟩ = some (.int .i64 hq.fl) := HBX1.out.c10
      have qf2 : (wd.setCell ⟨g9, 9, none⟩ (.int .i64 1)).frozen? ⟨g9, 10, none⟩ = false := HBX1.out.fr 10
      refine' tk_q 3 50 hHeld ?hid ?hrd
      case hid => (refine ⟨_, rfl, rfl, rfl, fun w hSw => ?_⟩; (try dsimp only at hSw); go_simp; (try with_reducible rfl))
      (try simp only [pq1, ls0, ls1])
      refine' tk_call 4 ?hie (by kernel_rfl) ?hre
      case hie => rfl
      intro K hK
      go_simp
      have HBX2 := hid (show CBox ((wd.setCell ⟨g9, 9, none⟩ (.int .i64 1)).setCell ⟨g9, 10, none⟩ (.int .i64 l)) g9 25 ⟨{ hq with fn := 1, fl := l }, .slice ra rn rc, .slice rb rm rd⟩ from HBX1.out.s10)
      clear hHeld
      refine hK.out _ _ (by (try dsimp only); exact (VarIs.off (VarIs.off HLBD.out (by have := HG9.out; omega)) (by have := HG9.out; omega)).c) (fun hHeld => ?_)
      clear hK K
      (try simp only [pq1, ls0, ls1])
      refine wpAnyH_done (by kernel_rfl) ?_ _
      refine NoPanic.normal ?_
      obtain ⟨wz, hwz⟩ : ∃ x, x = (wd.setCell ⟨g9, 9, none⟩ (.int .i64 1)).setCell ⟨g9, 10, none⟩ (.int .i64 l) := ⟨_, rfl⟩
      rw [← hwz] at hHeld HBX2 ⊢
      have HBUz := hid (show But g9 W5 wz by rw [hwz]; exact (((HBU9.out).then HDR.out).set _ _).set _ _)
      have HLBz := hid (VarIs.but7 HLB5.out HBUz.out (by have := HG9.out; omega))
      obtain ⟨hz, hhz⟩ : ∃ h : Hd, h = { hq with fn := 1, fl := l } := ⟨_, rfl⟩
      rw [← hhz] at HBX2
      have HQhz := hid hhz
      clear hhz
      have HBXz := HBX2
      clear hHeld HBX1 HBX2 HBXD HLBD HDR q1 qf1 q2 qf2 hwz
      obtain ⟨y0, y1, y2, y3, y4, y5, y6, y7, y8, y9, y10, y11⟩ := HBXz.out.cs
      (try dsimp only at y0 y1 y2 y3 y4 y5 y6 y7 y8 y9 y10 y11)
      have HRZ := hid (HR5.out.but HBUz.out (by have := HG9.out; omega))
      obtain ⟨r0, r1, r2, r3, r4, r5, r6, r7, r8, r9, r10, r11⟩ := HRZ.out.cs
      (try dsimp only at r0 r1 r2 r3 r4 r5 r6 r7 r8 r9 r10 r11)
      obtain ⟨fr0, fr1, fr2, fr3, fr4, fr5, fr6, fr7, fr8, fr9, fr10, fr11⟩ := HRZ.out.frs
      have HSN := hid (show Stay (· = cw) w wz from HS5.out.but7 HBUz.out (by have := HG9.out; omega))
      have HWZ := hid (show WalkC M cw k3 wz from VarIs.but7 HW5K.out HBUz.out (by have := HG9.out; have := HCW.out; omega))
      have hvp := CoSN.but HVP.out HBUz.out (.inr rfl)
      have hvf := CoSN.but HVF.out HBUz.out (.inr rfl)
      have HRR := hid (show R = .mk hz C.pairs C.funs from by rw [HRE.out, HQhz.out, HQ.out]; unfold goT; rw [HHE.out, if_pos HF0.out, if_pos HF0.out, if_neg HP00.out, if_neg HP00.out])
      have HVV := hid (show CoVN (Old w2.heap.size) wz (.agg #[.int .i64 hz.f0, .int .i64 hz.f1, .int .i64 hz.f2, .int .i64 hz.f3, .int .i64 hz.f4, .int .i64 hz.f5, .int .i64 hz.pair, .int .i64 hz.pl, .slice ra rn rc, .int .i64 hz.fn, .int .i64 hz.fl, .slice rb rm rd]) R by rw [HRR.out]; exact CoVN.mk (h := hz) (CoSN.mono hvp fun _ _ h => .inl h) (CoSN.mono hvf fun _ _ h => .inl h))
      clear hvp hvf
      go_wp2
      have HPOST := hid (show WPost M cw k sz R w (.returned (coV ⟨hz, .slice ra rn rc, .slice rb rm rd⟩)) (set12 (wz) (w.heap.size + 1 + 1 + 1 + 1) ⟨hz, .slice ra rn rc, .slice rb rm rd⟩) from WPost.cell (w1 := w2) HVV.out (by omega) HSZ2.out HSN.out HK5.out HWZ.out HCW.out)
      refine ret12 (wz) (w.heap.size + 1 + 1 + 1 + 1) ⟨hz, .slice ra rn rc, .slice rb rm rd⟩ (HRZ.out) HPOST.out (fun wf hb => ?_) rfl
      obtain ⟨z0, z1, z2, z3, z4, z5, z6, z7, z8, z9, z10, z11⟩ := hb.cs
      simp [results, Tryd.results60, go_sem, coV, z0, z1, z2, z3, z4, z5, z6, z7, z8, z9, z10, z11]
     ·
      have b0 : decide (t.fn ≠ 0) = true := decide_eq_true hf0
      rw [b0]
      have HF0 := hid hf0
      clear hf0 b0
      obtain ⟨y0, y1, y2, y3, y4, y5, y6, y7, y8, y9, y10, y11⟩ := HBX9.out.cs
      (try dsimp only at y0 y1 y2 y3 y4 y5 y6 y7 y8 y9 y10 y11)
      have HRZ := hid (HR5.out.but HBU9.out (by have := HG9.out; omega))
      obtain ⟨r0, r1, r2, r3, r4, r5, r6, r7, r8, r9, r10, r11⟩ := HRZ.out.cs
      (try dsimp only at r0 r1 r2 r3 r4 r5 r6 r7 r8 r9 r10 r11)
      obtain ⟨fr0, fr1, fr2, fr3, fr4, fr5, fr6, fr7, fr8, fr9, fr10, fr11⟩ := HRZ.out.frs
      have HSN := hid (show Stay (· = cw) w w9 from HS5.out.but7 HBU9.out (by have := HG9.out; omega))
      have HWZ := hid (show WalkC M cw k3 w9 from VarIs.but7 HW5K.out HBU9.out (by have := HG9.out; have := HCW.out; omega))
      have hvp := CoSN.but HVP.out HBU9.out (.inr rfl)
      have hvf := CoSN.but HVF.out HBU9.out (.inr rfl)
      have HRR := hid (show R = .mk hq C.pairs C.funs from by rw [HRE.out, HQ.out]; unfold goT; rw [HHE.out, if_neg HF0.out, if_neg HF0.out, if_neg HP00.out, if_neg HP00.out])
      have HVV := hid (show CoVN (Old w2.heap.size) w9 (.agg #[.int .i64 hq.f0, .int .i64 hq.f1, .int .i64 hq.f2, .int .i64 hq.f3, .int .i64 hq.f4, .int .i64 hq.f5, .int .i64 hq.pair, .int .i64 hq.pl, .slice ra rn rc, .int .i64 hq.fn, .int .i64 hq.fl, .slice rb rm rd]) R by rw [HRR.out]; exact CoVN.mk (h := hq) (CoSN.mono hvp fun _ _ h => .inl h) (CoSN.mono hvf fun _ _ h => .inl h))
      clear hvp hvf
      go_wp2
      have HPOST := hid (show WPost M cw k sz R w (.returned (coV ⟨hq, .slice ra rn rc, .slice rb rm rd⟩)) (set12 (w9) (w.heap.size + 1 + 1 + 1 + 1) ⟨hq, .slice ra rn rc, .slice rb rm rd⟩) from WPost.cell (w1 := w2) HVV.out (by omega) HSZ2.out HSN.out HK5.out HWZ.out HCW.out)
      refine ret12 (w9) (w.heap.size + 1 + 1 + 1 + 1) ⟨hq, .slice ra rn rc, .slice rb rm rd⟩ (HRZ.out) HPOST.out (fun wf hb => ?_) rfl
      obtain ⟨z0, z1, z2, z3, z4, z5, z6, z7, z8, z9, z10, z11⟩ := hb.cs
      simp [results, Tryd.results60, go_sem, coV, z0, z1, z2, z3, z4, z5, z6, z7, z8, z9, z10, z11]
end Go.Proofs.YtlalnkabfigodaaDoor

import Derived.Test.YtfboejdddgedcaaHpT
import Derived.Maps.AppendAt
namespace Go.Proofs.Ytfboejdddgedcaa
open Go.RowKit

/-- blocks that are as they were -/
structure Ked (N : Nat → Prop) (w w' : World) : Prop where
  os : w'.os = w.os
  tape : w'.tape = w.tape
  output : w'.output = w.output
  size : w.heap.size ≤ w'.heap.size
  block : ∀ k, k < w.heap.size → N k → w'.heap[k]? = w.heap[k]?
section
variable {N M : Nat → Prop} {a b c w w' : World}
theorem Ked.refl (N : Nat → Prop) (w : World) : Ked N w w := ⟨rfl, rfl, rfl, Nat.le_refl _, fun _ _ _ => rfl⟩
theorem Ked.trans (h : Ked N a b) (k : Ked N b c) : Ked N a c :=
  ⟨k.os.trans h.os, k.tape.trans h.tape, k.output.trans h.output, Nat.le_trans h.size k.size, fun i hi hn => (k.block i (Nat.lt_of_lt_of_le hi h.size) hn).trans (h.block i hi hn)⟩
theorem Ked.mono (h : Ked N a b) (hM : ∀ k, k < a.heap.size → M k → N k) : Ked M a b := ⟨h.os, h.tape, h.output, h.size, fun k hk hm => h.block k hk (hM k hk hm)⟩
theorem Ked.drew (N : Nat → Prop) (w : World) (d : Nat) : Ked N w (w.drewN d) := ⟨rfl, rfl, rfl, Nat.le_refl _, fun _ _ _ => rfl⟩
theorem Ked.set (h : Ked N a b) {p : Addr} (hp : p.block < a.heap.size → ¬ N p.block) (x : Value) : Ked N a (b.setCell p x) :=
  ⟨h.os, h.tape, h.output, by simpa [World.setCell] using h.size, fun k hk hn => (Below.heap_setCell b p x k (fun e => hp (e ▸ hk) (e ▸ hn))).trans (h.block k hk hn)⟩
theorem Ked.grown {g : Option Nat} (h : Ked N a b) (k : b.grownBy c g) (hg : ∀ x, g = some x → x < a.heap.size → ¬ N x) : Ked N a c :=
  ⟨k.os.trans h.os, k.tape.trans h.tape, k.output.trans h.output, Nat.le_trans h.size k.size, fun i hi hn => (k.block i (Nat.lt_of_lt_of_le hi h.size) (fun e => hg i e.symm hi hn)).trans (h.block i hi hn)⟩
theorem Ked.then {B : Nat} (h : Ked N a b) (k : Below B b c) (hB : ∀ i, i < a.heap.size → N i → i < B) : Ked N a c :=
  ⟨k.os.trans h.os, k.tape.trans h.tape, k.output.trans h.output, Nat.le_trans h.size k.size, fun i hi hn => (k.block i (hB i hi hn)).trans (h.block i hi hn)⟩
theorem Ked.alloc (h : Ked N a b) (o : Obj) : Ked N a (b.alloc o) := h.then ((Below.refl b.heap.size b).alloc (Nat.le_refl _) o) (fun _ hi _ => Nat.lt_of_lt_of_le hi h.size)
theorem Ked.below {B : Nat} (h : Ked N a b) (hB : ∀ k, k < B → N k) (hs : B ≤ a.heap.size) : Below B a b := ⟨h.os, h.tape, h.output, h.size, fun k hk => h.block k (by omega) (hB k hk)⟩
theorem Ked.cell (h : Ked N a b) {p : Addr} (hp : p.block < a.heap.size) (hn : N p.block) : b.cell? p = a.cell? p := World.cell?_of_block (w := a) (h.block p.block hp hn)
end
/-- two values in blocks of their own that are not the same -/
def Dj (u v : Value) : Prop := ∀ g, u.ownBlock = some g → v.ownBlock ≠ some g
theorem Dj.symm {u v : Value} (h : Dj u v) : Dj v u := fun g hg e => h g e hg
/-- a heap in memory: its words, its marks, and those of the spare space -/
structure HwM (w : World) (N : Nat → Prop) (hb cap : Nat) (vw vs pw ps : Value) (W S P Z : List Nat) : Prop where
  blk : w.heap[hb]? = some (.cells #[.int .i64 cap, vw, vs, pw, ps] 66 (0, 0))
  r1 : RowM w vw W
  r2 : RowM w vs S
  r3 : RowM w pw P
  r4 : RowM w ps Z
  n1 : vw.ownBlock ≠ some hb
  n2 : vs.ownBlock ≠ some hb
  n3 : pw.ownBlock ≠ some hb
  n4 : ps.ownBlock ≠ some hb
  d12 : Dj vw vs
  d13 : Dj vw pw
  d14 : Dj vw ps
  d23 : Dj vs pw
  d24 : Dj vs ps
  d34 : Dj pw ps
  out : ∀ b, N b → b < w.heap.size ∧ b ≠ hb ∧ vw.ownBlock ≠ some b ∧ vs.ownBlock ≠ some b ∧ pw.ownBlock ≠ some b ∧ ps.ownBlock ≠ some b
section
variable {w w' : World} {N M : Nat → Prop} {hb cap : Nat} {vw vs pw ps : Value} {W S P Z : List Nat}
theorem HwM.c0 (h : HwM w N hb cap vw vs pw ps W S P Z) : w.cell? ⟨hb, 0, none⟩ = some (.int .i64 cap) := Lib.cell_of_heap h.blk 0
theorem HwM.c1 (h : HwM w N hb cap vw vs pw ps W S P Z) : w.cell? ⟨hb, 1, none⟩ = some vw := Lib.cell_of_heap h.blk 1
theorem HwM.c2 (h : HwM w N hb cap vw vs pw ps W S P Z) : w.cell? ⟨hb, 2, none⟩ = some vs := Lib.cell_of_heap h.blk 2
theorem HwM.c3 (h : HwM w N hb cap vw vs pw ps W S P Z) : w.cell? ⟨hb, 3, none⟩ = some pw := Lib.cell_of_heap h.blk 3
theorem HwM.c4 (h : HwM w N hb cap vw vs pw ps W S P Z) : w.cell? ⟨hb, 4, none⟩ = some ps := Lib.cell_of_heap h.blk 4
theorem HwM.fr (h : HwM w N hb cap vw vs pw ps W S P Z) (j : Nat) : w.frozen? ⟨hb, j, none⟩ = false := Lib.frozen_of_heap h.blk j
theorem HwM.lt (h : HwM w N hb cap vw vs pw ps W S P Z) : hb < w.heap.size := (Array.getElem?_eq_some_iff.1 h.blk).1
theorem HwM.sp1 (h : HwM w N hb cap vw vs pw ps W S P Z) : SpM w hb 1 vw vs W S := ⟨h.c1, h.c2, h.r1, h.r2⟩
theorem HwM.sp3 (h : HwM w N hb cap vw vs pw ps W S P Z) : SpM w hb 3 pw ps P Z := ⟨h.c3, h.c4, h.r3, h.r4⟩
/-- other blocks change, new ones come -/
theorem HwM.oth (h : HwM w N hb cap vw vs pw ps W S P Z) (_hs : w.heap.size ≤ w'.heap.size) (hk : ∀ k, k < w.heap.size → ¬ N k → w'.heap[k]? = w.heap[k]?) (hM : ∀ b, M b → (N b ∨ w.heap.size ≤ b) ∧ b < w'.heap.size) : HwM w' M hb cap vw vs pw ps W S P Z := by
  have hr : ∀ {v : Value} {l : List Nat}, RowM w v l → (∀ b, N b → v.ownBlock ≠ some b) → RowM w' v l := fun hr hn => hr.keep fun g hg => hk g (hr.lt hg) (fun e => hn g e hg)
  refine ⟨(hk hb h.lt (fun e => (h.out hb e).2.1 rfl)).trans h.blk, hr h.r1 (fun b e => (h.out b e).2.2.1), hr h.r2 (fun b e => (h.out b e).2.2.2.1), hr h.r3 (fun b e => (h.out b e).2.2.2.2.1), hr h.r4 (fun b e => (h.out b e).2.2.2.2.2), h.n1, h.n2, h.n3, h.n4, h.d12, h.d13, h.d14, h.d23, h.d24, h.d34, fun b hb' => ?_⟩
  obtain ⟨h1, h2⟩ := hM b hb'
  refine ⟨h2, ?_⟩
  rcases h1 with h1 | h1
  · exact (h.out b h1).2
  · exact ⟨by have := h.lt; omega, fun e => by have := h.r1.lt e; omega, fun e => by have := h.r2.lt e; omega, fun e => by have := h.r3.lt e; omega, fun e => by have := h.r4.lt e; omega⟩
theorem HwM.drew (h : HwM w N hb cap vw vs pw ps W S P Z) (d : Nat) : HwM (w.drewN d) N hb cap vw vs pw ps W S P Z := h.oth (Nat.le_refl _) (fun _ _ _ => rfl) (fun b hb => ⟨.inl hb, (h.out b hb).1⟩)
end
/-- what the rows of a heap hold -/
structure HpC (cap : Nat) (l : List Ob) (W S Z : List Nat) : Prop where
  lay : LayP W (hdK l) l
  bits : BitsP S l
  zero : ∀ x ∈ Z, x = 0
  used : usedH l ≤ cap
  big : cap ≤ 1048576
  s1 : S.length ≤ 16385
  z1 : Z.length ≤ 16385
  ok : OkL l
/-- a heap -/
def PhAt (w : World) (N : Nat → Prop) (hb cap : Nat) (l : List Ob) : Prop := ∃ vw vs pw ps W S Z, HwM w N hb cap vw vs pw ps W S [] Z ∧ HpC cap l W S Z
section
variable {w w' : World} {N M : Nat → Prop} {hb cap : Nat} {l : List Ob}
theorem PhAt.oth (h : PhAt w N hb cap l) (hs : w.heap.size ≤ w'.heap.size) (hk : ∀ k, k < w.heap.size → ¬ N k → w'.heap[k]? = w.heap[k]?) (hM : ∀ b, M b → (N b ∨ w.heap.size ≤ b) ∧ b < w'.heap.size) : PhAt w' M hb cap l := by
  obtain ⟨vw, vs, pw, ps, W, S, Z, h1, h2⟩ := h
  exact ⟨vw, vs, pw, ps, W, S, Z, h1.oth hs hk hM, h2⟩
theorem PhAt.drew (h : PhAt w N hb cap l) (d : Nat) : PhAt (w.drewN d) N hb cap l := by
  obtain ⟨vw, vs, pw, ps, W, S, Z, h1, h2⟩ := h
  exact ⟨vw, vs, pw, ps, W, S, Z, h1.drew d, h2⟩
theorem PhAt.low (h : PhAt w N hb cap l) : ∀ b, N b → b < w.heap.size := by
  obtain ⟨vw, vs, pw, ps, W, S, Z, h1, h2⟩ := h
  exact fun b hb => (h1.out b hb).1
theorem PhAt.lt (h : PhAt w N hb cap l) : hb < w.heap.size := by
  obtain ⟨vw, vs, pw, ps, W, S, Z, h1, h2⟩ := h
  exact h1.lt
theorem PhAt.used (h : PhAt w N hb cap l) : usedH l ≤ cap ∧ cap ≤ 1048576 ∧ OkL l := by
  obtain ⟨vw, vs, pw, ps, W, S, Z, h1, h2⟩ := h
  exact ⟨h2.used, h2.big, h2.ok⟩
end

set_option maxHeartbeats 800000 in
/-- how many words are used -/
theorem pused_any {w : World} {N : Nat → Prop} {hb cap : Nat} {l : List Ob} (h : PhAt w N hb cap l) :
    Calls Try.prog 19 #[.pointer (some ⟨hb, 0, none⟩)] w fun e w' => e = .returned (.int .i64 (usedH l)) ∧ w = w' := by
  obtain ⟨vw, vs, pw, ps, W, S, Z, h1, h2⟩ := h
  have hc1 := h1.c1
  obtain ⟨a, c, rfl, hl, hm⟩ := h1.r1.val
  have HL := Lib.hid h2.lay.len
  have hu := h2.used
  have hbig := h2.big
  rw [← HL.out] at hu ⊢
  clear h1 h2
  generalize W.length = n at *
  go_enter Try.func19, Try.ntmps19
  go_wp2
  go_ret
  exact ⟨rfl, rfl⟩

set_option maxHeartbeats 800000 in
/-- how many words are left -/
theorem proom_any {w : World} {N : Nat → Prop} {hb cap : Nat} {l : List Ob} (h : PhAt w N hb cap l) :
    Calls Try.prog 21 #[.pointer (some ⟨hb, 0, none⟩)] w fun e w' => e = .returned (.int .i64 ((cap : Int) - usedH l)) ∧ ∃ d, w' = w.drewN d := by
  have HU := Lib.hid (fun d => (pused_any (h.drew d)).mono fun _ _ ⟨e1, e2⟩ => And.intro e1 e2.symm)
  obtain ⟨hu, hbig, _⟩ := h.used
  obtain ⟨vw, vs, pw, ps, W, S, Z, h1, h2⟩ := h
  have hc0 := h1.c0
  clear h1 h2
  generalize usedH l = n at *
  go_enter Try.func21, Try.ntmps21
  go_wp2
  go_quiet ((go_at_call 19; exact Calls.quiet_of_same (HU.out _)))
  go_wp2
  go_ret
  exact ⟨rfl, _, rfl⟩
end Go.Proofs.Ytfboejdddgedcaa

import Derived.Test.YtfboejdddgedcaaHpY
namespace Go.Proofs.Ytfboejdddgedcaa
open Go.RowKit

section
variable {w w' : World} {N : Nat → Prop} {hb cap : Nat} {vw vs pw ps vw' vs' : Value} {W S P Z W' S' : List Nat}
theorem HwM.start1 (h : HwM w N hb cap vw vs pw ps W S P Z) : AdM w w hb 1 #[.int .i64 cap, vw, vs, pw, ps] 66 vw vs vw vs W S := AdM.start h.blk rfl rfl h.r1 h.r2 h.n1 h.n2 h.d12
theorem HwM.start3 (h : HwM w N hb cap vw vs pw ps W S P Z) : AdM w w hb 3 #[.int .i64 cap, vw, vs, pw, ps] 66 pw ps pw ps P Z := AdM.start h.blk rfl rfl h.r3 h.r4 h.n3 h.n4 h.d34
theorem HwM.end1 (h : HwM w N hb cap vw vs pw ps W S P Z) (A : AdM w w' hb 1 #[.int .i64 cap, vw, vs, pw, ps] 66 vw vs vw' vs' W' S') : HwM w' N hb cap vw' vs' pw ps W' S' P Z := by
  have hk3 : ∀ g, pw.ownBlock = some g → w'.heap[g]? = w.heap[g]? := fun g hg => A.ked.block g (h.r3.lt hg) ⟨fun e => h.n3 (by rw [hg, e]), fun e => h.d13 g e hg, fun e => h.d23 g e hg⟩
  have hk4 : ∀ g, ps.ownBlock = some g → w'.heap[g]? = w.heap[g]? := fun g hg => A.ked.block g (h.r4.lt hg) ⟨fun e => h.n4 (by rw [hg, e]), fun e => h.d14 g e hg, fun e => h.d24 g e hg⟩
  have hnew : ∀ {v u : Value} {l : List Nat}, (∀ g, v.ownBlock = some g → vw.ownBlock = some g ∨ w.heap.size ≤ g) → RowM w u l → Dj vw u → Dj v u := fun h1 h2 h3 g hg e => by
    rcases h1 g hg with h4 | h4
    · exact h3 g h4 e
    · have := h2.lt e; omega
  have hnew2 : ∀ {v u : Value} {l : List Nat}, (∀ g, v.ownBlock = some g → vs.ownBlock = some g ∨ w.heap.size ≤ g) → RowM w u l → Dj vs u → Dj v u := fun h1 h2 h3 g hg e => by
    rcases h1 g hg with h4 | h4
    · exact h3 g h4 e
    · have := h2.lt e; omega
  refine ⟨A.blk, A.r1, A.r2, h.r3.keep hk3, h.r4.keep hk4, A.n1, A.n2, h.n3, h.n4, A.d12, hnew A.b1 h.r3 h.d13, hnew A.b1 h.r4 h.d14, hnew2 A.b2 h.r3 h.d23, hnew2 A.b2 h.r4 h.d24, h.d34, fun b hb => ?_⟩
  have ho := h.out b hb
  refine ⟨Nat.lt_of_lt_of_le ho.1 A.ked.size, ho.2.1, fun e => ?_, fun e => ?_, ho.2.2.2.2.1, ho.2.2.2.2.2⟩
  · rcases A.b1 b e with h1 | h1
    · exact ho.2.2.1 h1
    · omega
  · rcases A.b2 b e with h1 | h1
    · exact ho.2.2.2.1 h1
    · omega
theorem HwM.end3 (h : HwM w N hb cap vw vs pw ps W S P Z) (A : AdM w w' hb 3 #[.int .i64 cap, vw, vs, pw, ps] 66 pw ps vw' vs' W' S') : HwM w' N hb cap vw vs vw' vs' W S W' S' := by
  have hk1 : ∀ g, vw.ownBlock = some g → w'.heap[g]? = w.heap[g]? := fun g hg => A.ked.block g (h.r1.lt hg) ⟨fun e => h.n1 (by rw [hg, e]), fun e => h.d13 g hg e, fun e => h.d14 g hg e⟩
  have hk2 : ∀ g, vs.ownBlock = some g → w'.heap[g]? = w.heap[g]? := fun g hg => A.ked.block g (h.r2.lt hg) ⟨fun e => h.n2 (by rw [hg, e]), fun e => h.d23 g hg e, fun e => h.d24 g hg e⟩
  have hnew : ∀ {v u : Value} {l : List Nat}, (∀ g, v.ownBlock = some g → pw.ownBlock = some g ∨ w.heap.size ≤ g) → RowM w u l → Dj u pw → Dj u v := fun h1 h2 h3 g hg e => by
    rcases h1 g e with h4 | h4
    · exact h3 g hg h4
    · have := h2.lt hg; omega
  have hnew2 : ∀ {v u : Value} {l : List Nat}, (∀ g, v.ownBlock = some g → ps.ownBlock = some g ∨ w.heap.size ≤ g) → RowM w u l → Dj u ps → Dj u v := fun h1 h2 h3 g hg e => by
    rcases h1 g e with h4 | h4
    · exact h3 g hg h4
    · have := h2.lt hg; omega
  refine ⟨A.blk, h.r1.keep hk1, h.r2.keep hk2, A.r1, A.r2, h.n1, h.n2, A.n1, A.n2, h.d12, hnew A.b1 h.r1 h.d13, hnew2 A.b2 h.r1 h.d14, hnew A.b1 h.r2 h.d23, hnew2 A.b2 h.r2 h.d24, A.d12, fun b hb => ?_⟩
  have ho := h.out b hb
  refine ⟨Nat.lt_of_lt_of_le ho.1 A.ked.size, ho.2.1, ho.2.2.1, ho.2.2.2.1, fun e => ?_, fun e => ?_⟩
  · rcases A.b1 b e with h1 | h1
    · exact ho.2.2.2.2.1 h1
    · omega
  · rcases A.b2 b e with h1 | h1
    · exact ho.2.2.2.2.2 h1
    · omega
theorem HwM.kp1 (h : HwM w N hb cap vw vs pw ps W S P Z) {b : Nat} (hN : N b) : KpA hb vw vs b := ⟨(h.out b hN).2.1, (h.out b hN).2.2.1, (h.out b hN).2.2.2.1⟩
theorem HwM.kp3 (h : HwM w N hb cap vw vs pw ps W S P Z) {b : Nat} (hN : N b) : KpA hb pw ps b := ⟨(h.out b hN).2.1, (h.out b hN).2.2.2.2.1, (h.out b hN).2.2.2.2.2⟩
theorem HpC.add {l : List Ob} (h : HpC cap l W S Z) {o : Ob} (h1 : 1 ≤ o.kind) (h2 : o.kind ≤ 127) (h3 : ∀ x ∈ o.f, x < 18446744073709551616) (hu : usedH l + (o.f.length + 1) ≤ cap) : HpC cap (l ++ [o]) (W ++ headN o :: o.f) (addS S W.length) Z := by
  refine ⟨h.lay.add o, h.bits.add o h.lay.len, h.zero, by rw [usedH_snoc]; exact hu, h.big, ?_, h.z1, fun k hk => ?_⟩
  · rw [addS_len, h.lay.len]
    have := h.s1; have := h.big
    omega
  · rw [List.length_append, List.length_singleton] at hk
    by_cases e : k = l.length
    · subst e; rw [getO_app_one]; exact ⟨h1, h2, h3⟩
    · rw [getO_app_lt (by omega)]; exact h.ok k (by omega)
end
/-- an object added: its word, what is wrong, the objects -/
def allocH (cap : Nat) (l : List Ob) (kind : Int) (fs : List Nat) : Nat × Nat × List Ob :=
  if kind < 1 ∨ 127 < kind ∨ 65536 < fs.length then (0, 1, l) else if cap < usedH l + (fs.length + 1) then (0, 10, l) else (4 * (usedH l + 1), 0, l ++ [⟨kind, fs⟩])
theorem getD_lt_of_mem {S : List Nat} (h : ∀ x ∈ S, x < 18446744073709551616) (j : Nat) : S.getD j 0 < 18446744073709551616 := by
  by_cases e : j < S.length
  · exact h _ (by simp [List.getD_eq_getElem?_getD, e])
  · simp [List.getD_eq_getElem?_getD, List.getElem?_eq_none (Nat.not_lt.1 e)]
theorem WdS.small {w : World} {ok : Nat → Prop} {v : Value} {l : List Nat} (h : WdS w ok v l) : ∀ x ∈ l, x < 18446744073709551616 := by
  cases h with
  | mkNil a c => intro x hx; cases hx
  | mkSome b off cap n l h1 h2 h3 h4 h5 => exact h5

set_option maxHeartbeats 1600000 in
/-- what can't be added -/
theorem palloc_bad {w : World} {hb : Nat} {kind : Int} {a : Option Addr} {n c : Nat} (h : kind < 1 ∨ 127 < kind ∨ 65536 < n) (hn : n ≤ maxLen) :
    Calls Try.prog 12 #[.pointer (some ⟨hb, 0, none⟩), .int .i64 kind, .slice a n c] w fun e w' => e = .returned (.tuple #[.int .u64 0, .int .i64 1]) ∧ w' = w := by
  have hn2 : (n : Int) ≤ 9223372036854775807 := by unfold maxLen at hn; omega
  clear hn
  by_cases h1 : kind < 1
  · clear h hn2
    go_enter Try.func12, Try.ntmps12
    go_wp2
    go_ret2
    exact ⟨rfl, rfl⟩
  by_cases h2 : 127 < kind
  · clear h hn2
    go_enter Try.func12, Try.ntmps12
    go_wp2
    go_ret2
    exact ⟨rfl, rfl⟩
  have h3 : 65536 < n := by omega
  clear h
  go_enter Try.func12, Try.ntmps12
  go_wp2
  go_ret2
  exact ⟨rfl, rfl⟩

set_option maxHeartbeats 1600000 in
/-- an object is added -/
theorem palloc_any {w : World} {N : Nat → Prop} {hb cap : Nat} {l : List Ob} (h : PhAt w N hb cap l) (kind : Int) {ok : Nat → Prop} {u : Value} {fs : List Nat} (hF : WdS w ok u fs) (hok : ∀ b, ok b → N b) :
    Calls Try.prog 12 #[.pointer (some ⟨hb, 0, none⟩), .int .i64 kind, u] w fun e w' =>
      e = .returned (.tuple #[.int .u64 ((allocH cap l kind fs).1 : Nat), .int .i64 ((allocH cap l kind fs).2.1 : Nat)]) ∧ PhAt w' N hb cap (allocH cap l kind fs).2.2 ∧ Ked N w w' := by
  by_cases hbad : kind < 1 ∨ 127 < kind ∨ 65536 < fs.length
  · obtain ⟨ua, uc, rfl⟩ := hF.val
    refine (palloc_bad hbad hF.len).mono ?_
    rintro e w' ⟨rfl, rfl⟩
    unfold allocH
    rw [if_pos hbad]
    exact ⟨rfl, h, Ked.refl _ _⟩
  have hcr := proom_any h
  obtain ⟨hu, hbig, hOk⟩ := h.used
  by_cases hroom : cap < usedH l + (fs.length + 1)
  · have hres : allocH cap l kind fs = (0, 10, l) := by unfold allocH; rw [if_neg hbad, if_pos hroom]
    rw [hres]
    dsimp only
    obtain ⟨ua, uc, rfl⟩ := hF.val
    have HP := Lib.hid h
    have HCR := Lib.hid hcr
    have k1 : ¬ kind < 1 := fun e => hbad (.inl e)
    have k2 : ¬ 127 < kind := fun e => hbad (.inr (.inl e))
    have k3 : fs.length ≤ 65536 := by omega
    clear h hcr hF hok hbad hres
    generalize fs.length = n at *
    generalize usedH l = m at *
    have hgt : (cap : Int) - m < 1 + n := by omega
    clear hroom
    go_enter Try.func12, Try.ntmps12
    go_wp2_with fail
    refine HCR.out.mono ?_
    rintro e w' ⟨rfl, d, rfl⟩
    go_wp2
    go_ret2
    exact ⟨rfl, HP.out.drew _, Ked.drew _ _ _⟩
  · have hres : allocH cap l kind fs = (4 * (usedH l + 1), 0, l ++ [⟨kind, fs⟩]) := by unfold allocH; rw [if_neg hbad, if_neg hroom]
    rw [hres]
    dsimp only
    have hsm := hF.small
    have hFu := hF
    obtain ⟨ua, uc, rfl⟩ := hF.val
    have k1 : ¬ kind < 1 := fun e => hbad (.inl e)
    have k2 : ¬ 127 < kind := fun e => hbad (.inr (.inl e))
    have k3 : fs.length ≤ 65536 := by omega
    obtain ⟨kn, rfl⟩ : ∃ kn : Nat, kind = kn := ⟨kind.toNat, by omega⟩
    obtain ⟨vw, vs, pw, ps, W, S, Z, h1, h2⟩ := h
    have hWl := h2.lay.len
    have HADD := Lib.hid (fun d => padd_any ((h1.drew d).start1) kn (by omega) (fs := fs) (hFu.mono (w := w) (w' := w.drewN d) (ok' := ok) (fun _ h => h) (fun _ _ _ => rfl)) (fun b hb => ⟨(h1.out b (hok b hb)).1, h1.kp1 (hok b hb)⟩) (by omega) (by have := h2.s1; omega) (getD_lt_of_mem h2.bits.lt))
    have HFIN := Lib.hid (fun (d : Nat) (w' : World) (vw' vs' : Value) (A : AdM (w.drewN d) w' hb 1 #[.int .i64 cap, vw, vs, pw, ps] 66 vw vs vw' vs' (W ++ (fs.length * 256 + kn) :: fs) (addS S W.length)) => show PhAt w' N hb cap (l ++ [⟨kn, fs⟩]) ∧ Ked N w w' from
      ⟨⟨vw', vs', pw, ps, _, _, Z, (h1.drew d).end1 A, h2.add (o := ⟨kn, fs⟩) (by show (1 : Int) ≤ kn; omega) (by show (kn : Int) ≤ 127; omega) hsm (by show usedH l + (fs.length + 1) ≤ cap; omega)⟩, (Ked.drew N w d).trans (A.ked.mono fun b _ hb => h1.kp1 hb)⟩)
    rw [hWl] at HADD HFIN
    have HCR := Lib.hid hcr
    have HWA := Lib.hid (pwordat_any (usedH l) (by omega))
    clear hcr hF hok hbad hres h1 h2 hFu hsm hWl hOk
    generalize fs.length * 256 + kn = hd at *
    generalize fs.length = n at *
    generalize usedH l = m at *
    have hgt : (1 : Int) + n ≤ (cap : Int) - m := by omega
    clear hroom
    go_enter Try.func12, Try.ntmps12
    go_wp2_with fail
    refine HCR.out.mono ?_
    rintro e w' ⟨rfl, d, rfl⟩
    go_wp2_with fail
    refine (HADD.out d).mono ?_
    rintro e w1 ⟨rfl, vw', vs', hA, _⟩
    have HE := Lib.hid (HFIN.out d w1 vw' vs' hA)
    clear hA
    go_wp2_with fail
    refine (HWA.out w1).mono ?_
    rintro e w2 ⟨rfl, rfl⟩
    go_wp2
    go_ret2
    exact ⟨rfl, HE.out.1, HE.out.2⟩
end Go.Proofs.Ytfboejdddgedcaa

import Derived.Test.YtdjhjapfmbcmlaaDoorTyFo
import Derived.Test.YtdjhjapfmbcmlaaDoorTyPa
import Derived.LoopN
namespace Go.Proofs.YtdjhjapfmbcmlaaDoor
open Go.RowKit

/-- a type, and that it is one -/
def NamPost (N : Nat → Prop) (t : Ty) (w : World) (e : Ending) (w' : World) : Prop := (∃ u, e = .returned (.tuple #[u, .bool true]) ∧ TyVN N w' u t) ∧ Below w.heap.size w w'

set_option maxRecDepth 100000 in
set_option maxHeartbeats 16000000 in
theorem named_nAny (N : Nat → Prop) (w : World) (hFN : FN w) : Calls Tryd.prog 61 #[.string ⟨nAny.toArray⟩] w (NamPost N (tyAll) w) := by
  obtain ⟨W, hW⟩ : ∃ W, W = w.alloc (.cells #[.bool false, .int .i64 0, .int .i64 0, (.slice none 0 0), .int .i64 0, (.slice none 0 0)] 24) := ⟨_, rfl⟩
  obtain ⟨g, hg⟩ : ∃ g, g = w.heap.size := ⟨_, rfl⟩
  have HBW := Lib.hid (show Below w.heap.size w W by rw [hW]; exact (Below.refl _ _).alloc (Nat.le_refl _) _)
  have HR := Lib.hid (show BoxAt W g false 0 0 (.slice none 0 0) 0 (.slice none 0 0) by rw [hW, hg]; exact BoxAt.made _ _ _ _ _ _ _)
  have HFN := Lib.hid (hFN.below HBW.out)
  have HW := Lib.hid hW
  have HG := Lib.hid hg
  have hlt := HFN.out.1
  have HLT := Lib.hid hlt
  clear hW hg hFN hlt
  go_enter Tryd.func61, Tryd.ntmps61
  go_wp2_with fail
  rw [← HG.out, ← HW.out]
  refine (all_p W).mono ?_
  rintro e w2 ⟨rfl, hb2⟩
  have hr := HR.out.keep hb2
  have r0 := hr.c0
  have r1 := hr.c1
  have r2 := hr.c2
  have r3 := hr.c3
  have r4 := hr.c4
  have r5 := hr.c5
  have rf := hr.fr
  have HB2 := Lib.hid (HBW.out.trans (hb2.mono HBW.out.size))
  clear hb2 hr
  go_wp2
  refine bodyPost_ret (v := .tuple #[.agg #[.bool true, .int .i64 0, .int .i64 0, .slice none 0 0, .int .i64 0, .slice none 0 0], .bool true]) (by simp [results, Tryd.results61, go_sem, r0, r1, r2, r3, r4, r5]) rfl ⟨⟨_, rfl, TyVN.mk (.mkNil _ _) (.mkNil _ _)⟩, Below.set6 (g := g) HB2.out (by rw [HG.out]; omega)⟩

set_option maxRecDepth 100000 in
set_option maxHeartbeats 16000000 in
theorem named_nInt (N : Nat → Prop) (w : World) (hFN : FN w) : Calls Tryd.prog 61 #[.string ⟨nInt.toArray⟩] w (NamPost N (flatT 1) w) := by
  obtain ⟨W, hW⟩ : ∃ W, W = w.alloc (.cells #[.bool false, .int .i64 0, .int .i64 0, (.slice none 0 0), .int .i64 0, (.slice none 0 0)] 24) := ⟨_, rfl⟩
  obtain ⟨g, hg⟩ : ∃ g, g = w.heap.size := ⟨_, rfl⟩
  have HBW := Lib.hid (show Below w.heap.size w W by rw [hW]; exact (Below.refl _ _).alloc (Nat.le_refl _) _)
  have HR := Lib.hid (show BoxAt W g false 0 0 (.slice none 0 0) 0 (.slice none 0 0) by rw [hW, hg]; exact BoxAt.made _ _ _ _ _ _ _)
  have HFN := Lib.hid (hFN.below HBW.out)
  have HW := Lib.hid hW
  have HG := Lib.hid hg
  have hlt := HFN.out.1
  have HLT := Lib.hid hlt
  clear hW hg hFN hlt
  have v0 := HFN.out.2.1
  have v1 := HFN.out.2.2.1
  have v2 := HFN.out.2.2.2.1
  have v3 := HFN.out.2.2.2.2.1
  have v4 := HFN.out.2.2.2.2.2.1
  have v5 := HFN.out.2.2.2.2.2.2
  have hix0 := ix0
  rw [HW.out] at v0 v1 v2 v3 v4 v5
  go_enter Tryd.func61, Tryd.ntmps61
  go_wp2
  refine wp_loop_rounds 1 ?_
  rw [rounds_succ]
  go_wp2_with fail
  rw [← HG.out, ← HW.out]
  refine (flat_p 1 W).mono ?_
  rintro e w2 ⟨rfl, hb2⟩
  have hr := HR.out.keep hb2
  have r0 := hr.c0
  have r1 := hr.c1
  have r2 := hr.c2
  have r3 := hr.c3
  have r4 := hr.c4
  have r5 := hr.c5
  have rf := hr.fr
  have HB2 := Lib.hid (HBW.out.trans (hb2.mono HBW.out.size))
  clear hb2 hr
  go_wp2
  refine bodyPost_ret (v := .tuple #[.agg #[.bool false, .int .i64 1, .int .i64 0, .slice none 0 0, .int .i64 0, .slice none 0 0], .bool true]) (by simp [results, Tryd.results61, go_sem, r0, r1, r2, r3, r4, r5]) rfl ⟨⟨_, rfl, TyVN.mk (.mkNil _ _) (.mkNil _ _)⟩, Below.set6 (g := g) HB2.out (by rw [HG.out]; omega)⟩

set_option maxRecDepth 100000 in
set_option maxHeartbeats 16000000 in
theorem named_nBool (N : Nat → Prop) (w : World) (hFN : FN w) : Calls Tryd.prog 61 #[.string ⟨nBool.toArray⟩] w (NamPost N (flatT 2) w) := by
  obtain ⟨W, hW⟩ : ∃ W, W = w.alloc (.cells #[.bool false, .int .i64 0, .int .i64 0, (.slice none 0 0), .int .i64 0, (.slice none 0 0)] 24) := ⟨_, rfl⟩
  obtain ⟨g, hg⟩ : ∃ g, g = w.heap.size := ⟨_, rfl⟩
  have HBW := Lib.hid (show Below w.heap.size w W by rw [hW]; exact (Below.refl _ _).alloc (Nat.le_refl _) _)
  have HR := Lib.hid (show BoxAt W g false 0 0 (.slice none 0 0) 0 (.slice none 0 0) by rw [hW, hg]; exact BoxAt.made _ _ _ _ _ _ _)
  have HFN := Lib.hid (hFN.below HBW.out)
  have HW := Lib.hid hW
  have HG := Lib.hid hg
  have hlt := HFN.out.1
  have HLT := Lib.hid hlt
  clear hW hg hFN hlt
  have v0 := HFN.out.2.1
  have v1 := HFN.out.2.2.1
  have v2 := HFN.out.2.2.2.1
  have v3 := HFN.out.2.2.2.2.1
  have v4 := HFN.out.2.2.2.2.2.1
  have v5 := HFN.out.2.2.2.2.2.2
  have hix0 := ix0
  have hix1 := ix1
  rw [HW.out] at v0 v1 v2 v3 v4 v5
  go_enter Tryd.func61, Tryd.ntmps61
  go_wp2
  refine wp_loop_rounds 2 ?_
  rw [rounds_succ]
  go_wp2
  rw [rounds_succ]
  go_wp2_with fail
  rw [← HG.out, ← HW.out]
  refine (flat_p 2 W).mono ?_
  rintro e w2 ⟨rfl, hb2⟩
  have hr := HR.out.keep hb2
  have r0 := hr.c0
  have r1 := hr.c1
  have r2 := hr.c2
  have r3 := hr.c3
  have r4 := hr.c4
  have r5 := hr.c5
  have rf := hr.fr
  have HB2 := Lib.hid (HBW.out.trans (hb2.mono HBW.out.size))
  clear hb2 hr
  go_wp2
  refine bodyPost_ret (v := .tuple #[.agg #[.bool false, .int .i64 2, .int .i64 0, .slice none 0 0, .int .i64 0, .slice none 0 0], .bool true]) (by simp [results, Tryd.results61, go_sem, r0, r1, r2, r3, r4, r5]) rfl ⟨⟨_, rfl, TyVN.mk (.mkNil _ _) (.mkNil _ _)⟩, Below.set6 (g := g) HB2.out (by rw [HG.out]; omega)⟩

set_option maxRecDepth 100000 in
set_option maxHeartbeats 16000000 in
theorem named_nStr (N : Nat → Prop) (w : World) (hFN : FN w) : Calls Tryd.prog 61 #[.string ⟨nStr.toArray⟩] w (NamPost N (flatT 4) w) := by
  obtain ⟨W, hW⟩ : ∃ W, W = w.alloc (.cells #[.bool false, .int .i64 0, .int .i64 0, (.slice none 0 0), .int .i64 0, (.slice none 0 0)] 24) := ⟨_, rfl⟩
  obtain ⟨g, hg⟩ : ∃ g, g = w.heap.size := ⟨_, rfl⟩
  have HBW := Lib.hid (show Below w.heap.size w W by rw [hW]; exact (Below.refl _ _).alloc (Nat.le_refl _) _)
  have HR := Lib.hid (show BoxAt W g false 0 0 (.slice none 0 0) 0 (.slice none 0 0) by rw [hW, hg]; exact BoxAt.made _ _ _ _ _ _ _)
  have HFN := Lib.hid (hFN.below HBW.out)
  have HW := Lib.hid hW
  have HG := Lib.hid hg
  have hlt := HFN.out.1
  have HLT := Lib.hid hlt
  clear hW hg hFN hlt
  have v0 := HFN.out.2.1
  have v1 := HFN.out.2.2.1
  have v2 := HFN.out.2.2.2.1
  have v3 := HFN.out.2.2.2.2.1
  have v4 := HFN.out.2.2.2.2.2.1
  have v5 := HFN.out.2.2.2.2.2.2
  have hix0 := ix0
  have hix1 := ix1
  have hix2 := ix2
  rw [HW.out] at v0 v1 v2 v3 v4 v5
  go_enter Tryd.func61, Tryd.ntmps61
  go_wp2
  refine wp_loop_rounds 3 ?_
  rw [rounds_succ]
  go_wp2
  rw [rounds_succ]
  go_wp2
  rw [rounds_succ]
  go_wp2_with fail
  rw [← HG.out, ← HW.out]
  refine (flat_p 4 W).mono ?_
  rintro e w2 ⟨rfl, hb2⟩
  have hr := HR.out.keep hb2
  have r0 := hr.c0
  have r1 := hr.c1
  have r2 := hr.c2
  have r3 := hr.c3
  have r4 := hr.c4
  have r5 := hr.c5
  have rf := hr.fr
  have HB2 := Lib.hid (HBW.out.trans (hb2.mono HBW.out.size))
  clear hb2 hr
  go_wp2
  refine bodyPost_ret (v := .tuple #[.agg #[.bool false, .int .i64 4, .int .i64 0, .slice none 0 0, .int .i64 0, .slice none 0 0], .bool true]) (by simp [results, Tryd.results61, go_sem, r0, r1, r2, r3, r4, r5]) rfl ⟨⟨_, rfl, TyVN.mk (.mkNil _ _) (.mkNil _ _)⟩, Below.set6 (g := g) HB2.out (by rw [HG.out]; omega)⟩

set_option maxRecDepth 100000 in
set_option maxHeartbeats 16000000 in
theorem named_nSym (N : Nat → Prop) (w : World) (hFN : FN w) : Calls Tryd.prog 61 #[.string ⟨nSym.toArray⟩] w (NamPost N (flatT 8) w) := by
  obtain ⟨W, hW⟩ : ∃ W, W = w.alloc (.cells #[.bool false, .int .i64 0, .int .i64 0, (.slice none 0 0), .int .i64 0, (.slice none 0 0)] 24) := ⟨_, rfl⟩
  obtain ⟨g, hg⟩ : ∃ g, g = w.heap.size := ⟨_, rfl⟩
  have HBW := Lib.hid (show Below w.heap.size w W by rw [hW]; exact (Below.refl _ _).alloc (Nat.le_refl _) _)
  have HR := Lib.hid (show BoxAt W g false 0 0 (.slice none 0 0) 0 (.slice none 0 0) by rw [hW, hg]; exact BoxAt.made _ _ _ _ _ _ _)
  have HFN := Lib.hid (hFN.below HBW.out)
  have HW := Lib.hid hW
  have HG := Lib.hid hg
  have hlt := HFN.out.1
  have HLT := Lib.hid hlt
  clear hW hg hFN hlt
  have v0 := HFN.out.2.1
  have v1 := HFN.out.2.2.1
  have v2 := HFN.out.2.2.2.1
  have v3 := HFN.out.2.2.2.2.1
  have v4 := HFN.out.2.2.2.2.2.1
  have v5 := HFN.out.2.2.2.2.2.2
  have hix0 := ix0
  have hix1 := ix1
  have hix2 := ix2
  have hix3 := ix3
  rw [HW.out] at v0 v1 v2 v3 v4 v5
  go_enter Tryd.func61, Tryd.ntmps61
  go_wp2
  refine wp_loop_rounds 4 ?_
  rw [rounds_succ]
  go_wp2
  rw [rounds_succ]
  go_wp2
  rw [rounds_succ]
  go_wp2
  rw [rounds_succ]
  go_wp2_with fail
  rw [← HG.out, ← HW.out]
  refine (flat_p 8 W).mono ?_
  rintro e w2 ⟨rfl, hb2⟩
  have hr := HR.out.keep hb2
  have r0 := hr.c0
  have r1 := hr.c1
  have r2 := hr.c2
  have r3 := hr.c3
  have r4 := hr.c4
  have r5 := hr.c5
  have rf := hr.fr
  have HB2 := Lib.hid (HBW.out.trans (hb2.mono HBW.out.size))
  clear hb2 hr
  go_wp2
  refine bodyPost_ret (v := .tuple #[.agg #[.bool false, .int .i64 8, .int .i64 0, .slice none 0 0, .int .i64 0, .slice none 0 0], .bool true]) (by simp [results, Tryd.results61, go_sem, r0, r1, r2, r3, r4, r5]) rfl ⟨⟨_, rfl, TyVN.mk (.mkNil _ _) (.mkNil _ _)⟩, Below.set6 (g := g) HB2.out (by rw [HG.out]; omega)⟩

set_option maxRecDepth 100000 in
set_option maxHeartbeats 16000000 in
theorem named_nNull (N : Nat → Prop) (w : World) (hFN : FN w) : Calls Tryd.prog 61 #[.string ⟨nNull.toArray⟩] w (NamPost N (flatT 16) w) := by
  obtain ⟨W, hW⟩ : ∃ W, W = w.alloc (.cells #[.bool false, .int .i64 0, .int .i64 0, (.slice none 0 0), .int .i64 0, (.slice none 0 0)] 24) := ⟨_, rfl⟩
  obtain ⟨g, hg⟩ : ∃ g, g = w.heap.size := ⟨_, rfl⟩
  have HBW := Lib.hid (show Below w.heap.size w W by rw [hW]; exact (Below.refl _ _).alloc (Nat.le_refl _) _)
  have HR := Lib.hid (show BoxAt W g false 0 0 (.slice none 0 0) 0 (.slice none 0 0) by rw [hW, hg]; exact BoxAt.made _ _ _ _ _ _ _)
  have HFN := Lib.hid (hFN.below HBW.out)
  have HW := Lib.hid hW
  have HG := Lib.hid hg
  have hlt := HFN.out.1
  have HLT := Lib.hid hlt
  clear hW hg hFN hlt
  have v0 := HFN.out.2.1
  have v1 := HFN.out.2.2.1
  have v2 := HFN.out.2.2.2.1
  have v3 := HFN.out.2.2.2.2.1
  have v4 := HFN.out.2.2.2.2.2.1
  have v5 := HFN.out.2.2.2.2.2.2
  have hix0 := ix0
  have hix1 := ix1
  have hix2 := ix2
  have hix3 := ix3
  have hix4 := ix4
  rw [HW.out] at v0 v1 v2 v3 v4 v5
  go_enter Tryd.func61, Tryd.ntmps61
  go_wp2
  refine wp_loop_rounds 5 ?_
  rw [rounds_succ]
  go_wp2
  rw [rounds_succ]
  go_wp2
  rw [rounds_succ]
  go_wp2
  rw [rounds_succ]
  go_wp2
  rw [rounds_succ]
  go_wp2_with fail
  rw [← HG.out, ← HW.out]
  refine (flat_p 16 W).mono ?_
  rintro e w2 ⟨rfl, hb2⟩
  have hr := HR.out.keep hb2
  have r0 := hr.c0
  have r1 := hr.c1
  have r2 := hr.c2
  have r3 := hr.c3
  have r4 := hr.c4
  have r5 := hr.c5
  have rf := hr.fr
  have HB2 := Lib.hid (HBW.out.trans (hb2.mono HBW.out.size))
  clear hb2 hr
  go_wp2
  refine bodyPost_ret (v := .tuple #[.agg #[.bool false, .int .i64 16, .int .i64 0, .slice none 0 0, .int .i64 0, .slice none 0 0], .bool true]) (by simp [results, Tryd.results61, go_sem, r0, r1, r2, r3, r4, r5]) rfl ⟨⟨_, rfl, TyVN.mk (.mkNil _ _) (.mkNil _ _)⟩, Below.set6 (g := g) HB2.out (by rw [HG.out]; omega)⟩

set_option maxRecDepth 100000 in
set_option maxHeartbeats 16000000 in
theorem named_nVoid (N : Nat → Prop) (w : World) (hFN : FN w) : Calls Tryd.prog 61 #[.string ⟨nVoid.toArray⟩] w (NamPost N (flatT 32) w) := by
  obtain ⟨W, hW⟩ : ∃ W, W = w.alloc (.cells #[.bool false, .int .i64 0, .int .i64 0, (.slice none 0 0), .int .i64 0, (.slice none 0 0)] 24) := ⟨_, rfl⟩
  obtain ⟨g, hg⟩ : ∃ g, g = w.heap.size := ⟨_, rfl⟩
  have HBW := Lib.hid (show Below w.heap.size w W by rw [hW]; exact (Below.refl _ _).alloc (Nat.le_refl _) _)
  have HR := Lib.hid (show BoxAt W g false 0 0 (.slice none 0 0) 0 (.slice none 0 0) by rw [hW, hg]; exact BoxAt.made _ _ _ _ _ _ _)
  have HFN := Lib.hid (hFN.below HBW.out)
  have HW := Lib.hid hW
  have HG := Lib.hid hg
  have hlt := HFN.out.1
  have HLT := Lib.hid hlt
  clear hW hg hFN hlt
  have v0 := HFN.out.2.1
  have v1 := HFN.out.2.2.1
  have v2 := HFN.out.2.2.2.1
  have v3 := HFN.out.2.2.2.2.1
  have v4 := HFN.out.2.2.2.2.2.1
  have v5 := HFN.out.2.2.2.2.2.2
  have hix0 := ix0
  have hix1 := ix1
  have hix2 := ix2
  have hix3 := ix3
  have hix4 := ix4
  have hix5 := ix5
  rw [HW.out] at v0 v1 v2 v3 v4 v5
  go_enter Tryd.func61, Tryd.ntmps61
  go_wp2
  refine wp_loop_rounds 6 ?_
  rw [rounds_succ]
  go_wp2
  rw [rounds_succ]
  go_wp2
  rw [rounds_succ]
  go_wp2
  rw [rounds_succ]
  go_wp2
  rw [rounds_succ]
  go_wp2
  rw [rounds_succ]
  go_wp2_with fail
  rw [← HG.out, ← HW.out]
  refine (flat_p 32 W).mono ?_
  rintro e w2 ⟨rfl, hb2⟩
  have hr := HR.out.keep hb2
  have r0 := hr.c0
  have r1 := hr.c1
  have r2 := hr.c2
  have r3 := hr.c3
  have r4 := hr.c4
  have r5 := hr.c5
  have rf := hr.fr
  have HB2 := Lib.hid (HBW.out.trans (hb2.mono HBW.out.size))
  clear hb2 hr
  go_wp2
  refine bodyPost_ret (v := .tuple #[.agg #[.bool false, .int .i64 32, .int .i64 0, .slice none 0 0, .int .i64 0, .slice none 0 0], .bool true]) (by simp [results, Tryd.results61, go_sem, r0, r1, r2, r3, r4, r5]) rfl ⟨⟨_, rfl, TyVN.mk (.mkNil _ _) (.mkNil _ _)⟩, Below.set6 (g := g) HB2.out (by rw [HG.out]; omega)⟩

set_option maxRecDepth 100000 in
set_option maxHeartbeats 16000000 in
theorem named_nNothing (N : Nat → Prop) (w : World) : Calls Tryd.prog 61 #[.string ⟨nNothing.toArray⟩] w (NamPost N (ty0) w) := by
  go_enter Tryd.func61, Tryd.ntmps61
  go_wp2
  refine bodyPost_ret (v := .tuple #[.agg #[.bool false, .int .i64 0, .int .i64 0, .slice none 0 0, .int .i64 0, .slice none 0 0], .bool true]) (by simp [results, Tryd.results61, go_sem]) rfl ⟨⟨_, rfl, TyVN.mk (.mkNil _ _) (.mkNil _ _)⟩, (Below.refl _ _).alloc (Nat.le_refl _) _⟩

set_option maxRecDepth 100000 in
set_option maxHeartbeats 16000000 in
theorem named_nProc (N : Nat → Prop) (w : World) : Calls Tryd.prog 61 #[.string ⟨nProc.toArray⟩] w (NamPost N (procT) w) := by
  go_enter Tryd.func61, Tryd.ntmps61
  go_wp2
  refine bodyPost_ret (v := .tuple #[.agg #[.bool false, .int .i64 0, .int .i64 0, .slice none 0 0, .int .i64 2, .slice none 0 0], .bool true]) (by simp [results, Tryd.results61, go_sem]) rfl ⟨⟨_, rfl, TyVN.mk (.mkNil _ _) (.mkNil _ _)⟩, (Below.refl _ _).alloc (Nat.le_refl _) _⟩

theorem named_p (N : Nat → Prop) (s : List UInt8) (t : Ty) (h : wordT s = some t) (w : World) (hFN : FN w) : Calls Tryd.prog 61 #[.string ⟨s.toArray⟩] w (NamPost N t w) := by
  unfold wordT at h
  split at h
  · rename_i e; subst e; cases h; exact named_nInt N w hFN
  split at h
  · rename_i e; subst e; cases h; exact named_nBool N w hFN
  split at h
  · rename_i e; subst e; cases h; exact named_nStr N w hFN
  split at h
  · rename_i e; subst e; cases h; exact named_nSym N w hFN
  split at h
  · rename_i e; subst e; cases h; exact named_nNull N w hFN
  split at h
  · rename_i e; subst e; cases h; exact named_nVoid N w hFN
  split at h
  · rename_i e; subst e; cases h; exact named_nAny N w hFN
  split at h
  · rename_i e; subst e; cases h; exact named_nProc N w
  split at h
  · rename_i e; subst e; cases h; exact named_nNothing N w
  cases h
end Go.Proofs.YtdjhjapfmbcmlaaDoor

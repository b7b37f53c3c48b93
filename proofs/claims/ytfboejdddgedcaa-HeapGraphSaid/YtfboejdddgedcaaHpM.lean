import Derived.Test.YtfboejdddgedcaaHpL
namespace Go.Proofs.Ytfboejdddgedcaa
open Go.RowKit

theorem quiet_drew {P : Program} {f : FuncId} {args : Array Value} {w : World} {n : Nat} {v : Value}
    (h : Calls P f args (w.drewN n) fun e w' => e = .returned v ∧ ∃ d, w' = (w.drewN n).drewN d) : Calls P f args (w.drewN n) fun e w'' => e = .returned v ∧ ∃ m, w'' = w.drewN m :=
  h.mono fun _ _ ⟨he, d, hm⟩ => ⟨he, n + d, by rw [hm]; exact World.drewN_drewN _ _ _⟩
section
variable {w w' : World} {N M : Nat → Prop} {hb cap : Nat} {l : List Ob}
theorem PhAt.fresh (h : PhAt w N hb cap l) (o : Obj) : PhAt (w.alloc o) (fun b => N b ∨ b = w.heap.size) hb cap l := by
  refine h.oth (by simp) (fun k hk _ => Below.heap_alloc w o k hk) fun b hb' => ?_
  rcases hb' with h1 | h1
  · exact ⟨.inl h1, by have := h.low b h1; simp; omega⟩
  · exact ⟨.inr (by omega), by simp; omega⟩
theorem PhAt.mono (h : PhAt w N hb cap l) (hM : ∀ b, M b → N b) : PhAt w M hb cap l := h.oth (Nat.le_refl _) (fun _ _ _ => rfl) fun b hb => ⟨.inl (hM b hb), h.low b (hM b hb)⟩
theorem PhAt.later (h : PhAt w N hb cap l) (hB : Below w.heap.size w w') : PhAt w' N hb cap l := h.oth hB.size (fun k hk _ => hB.block k hk) fun b hb => ⟨.inl hb, Nat.lt_of_lt_of_le (h.low b hb) hB.size⟩
end
/-- a row that is built of words -/
theorem wds_made (w : World) (xs : List Nat) (T : TypeId) (hx : ∀ x ∈ xs, x < 18446744073709551616) (hl : xs.length ≤ 1000) : WdS (w.alloc (.cells (rowU xs).toArray T)) (fun b => b = w.heap.size) (.slice (some ⟨w.heap.size, 0, none⟩) xs.length xs.length) xs := by
  refine .mkSome w.heap.size 0 xs.length xs.length xs rfl rfl ⟨by unfold maxLen; omega, Nat.le_refl _⟩ (fun j hj => ?_) hx
  rw [Nat.zero_add, Lib.cell_of_heap (heap_alloc_new w _) j]
  simp [rowU, List.getD_eq_getElem?_getD, hj]

theorem palloc_made {w : World} {N : Nat → Prop} {hb cap : Nat} {l : List Ob} (h : PhAt w N hb cap l) (kind : Int) (xs : List Nat) (hx : ∀ x ∈ xs, x < 18446744073709551616) (hl : xs.length ≤ 1000) :
    Calls Try.prog 12 #[.pointer (some ⟨hb, 0, none⟩), .int .i64 kind, .slice (some ⟨w.heap.size, 0, none⟩) xs.length xs.length] (w.alloc (.cells (rowU xs).toArray 32)) fun e w' =>
      e = .returned (.tuple #[.int .u64 ((allocH cap l kind xs).1 : Nat), .int .i64 ((allocH cap l kind xs).2.1 : Nat)]) ∧ PhAt w' N hb cap (allocH cap l kind xs).2.2 ∧ Ked N w w' := by
  refine (palloc_any (h.fresh (.cells (rowU xs).toArray 32)) kind (wds_made w xs 32 hx hl) (fun b hb => .inr hb)).mono ?_
  rintro e w' ⟨he, hp, hk⟩
  exact ⟨he, hp.mono fun b hb => .inl hb, ((Ked.refl N w).alloc _).trans (hk.mono fun b _ hb => .inl hb)⟩
theorem pcollect_made {w : World} {N : Nat → Prop} {hb cap : Nat} {l : List Ob} (h : PhAt w N hb cap l) (xs : List Nat) (hx : ∀ x ∈ xs, x < 18446744073709551616) (hl : xs.length ≤ 1000) :
    Calls Try.prog 16 #[.pointer (some ⟨hb, 0, none⟩), .slice (some ⟨w.heap.size, 0, none⟩) xs.length xs.length] (w.alloc (.cells (rowU xs).toArray 32)) (ColPost N hb cap l xs w) := by
  refine (pcollect_any (h.fresh (.cells (rowU xs).toArray 32)) (wds_made w xs 32 hx hl) (fun b hb => .inr hb) (by omega)).mono ?_
  rintro e w' ⟨v, he, h1, h2, h3, h4⟩
  exact ⟨v, he, h1, fun b hb => by have := h2 b hb; simp at this; omega, h3.mono fun b hb => hb.imp .inl id, ((Ked.refl N w).alloc _).trans (h4.mono fun b _ hb => .inl hb)⟩
theorem aw_alloc1 : allocH 16 [] 1 [5, 9] = (4, 0, [⟨1, [5, 9]⟩]) := rfl
theorem aw_alloc2 : allocH 16 [⟨1, [5, 9]⟩] 2 [18446744073709551605] = (16, 0, [⟨1, [5, 9]⟩, ⟨2, [18446744073709551605]⟩]) := rfl
theorem aw_set : setH [⟨1, [5, 9]⟩, ⟨2, [18446744073709551605]⟩] 16 0 16 = some [⟨1, [5, 9]⟩, ⟨2, [16]⟩] := rfl
theorem aw_coll : collH [⟨1, [5, 9]⟩, ⟨2, [16]⟩] [22, 16] = ([⟨2, [4]⟩], [22, 4]) := rfl
theorem aw_kind : kindH [⟨2, [4]⟩] 4 = (2, true) := rfl
theorem aw_field : fieldH [⟨2, [4]⟩] 4 0 = (4, true) := rfl
theorem aw_used : usedH [⟨2, [4]⟩] = 2 := rfl
theorem aw_nbr : nbrH 18446744073709551605 = (-3, true) := by decide
theorem aw_num (w : World) : Calls Try.prog 34 #[.int .i64 1] w fun e w' => e = .returned (.int .u64 5) ∧ w = w' := pnum_any 1 w
theorem aw_num2 (w : World) : Calls Try.prog 34 #[.int .i64 2] w fun e w' => e = .returned (.int .u64 9) ∧ w = w' := pnum_any 2 w
theorem aw_num3 (w : World) : Calls Try.prog 34 #[.int .i64 (-3)] w fun e w' => e = .returned (.int .u64 18446744073709551605) ∧ w = w' := pnum_any (-3) w
theorem aw_imm (w : World) : Calls Try.prog 36 #[.int .i64 5] w fun e w' => e = .returned (.int .u64 22) ∧ w = w' := pimm_any 5 w
theorem aw_ptr (w : World) : Calls Try.prog 28 #[.int .i64 1] w fun e w' => e = .returned (.int .u64 4) ∧ w = w' := pptr_any 1 w

set_option maxRecDepth 100000 in
set_option maxHeartbeats 8000000 in
/-- awake -/
theorem awake8_any (w : World) : Calls Try.prog 7 #[] w fun e w' => e = .returned (.bool true) ∧ Below w.heap.size w w' := by
  obtain ⟨B, hB⟩ : ∃ B, B = w.heap.size := ⟨_, rfl⟩
  have q24 : ∀ (w : World) (g : Nat), (binOp .eql 24 (.pointer (some ⟨g, 0, none⟩)) (.pointer none)).run Try.prog w = .ok (.bool false) w := fun w g => rfl
  go_enter Try.func7, Try.ntmps7
  go_wp2_with fail
  refine (pnew_ok 16 (by omega) (by omega) w).mono ?_
  rintro e w1 ⟨rfl, hw1⟩
  have h1 : PhAt w1 (fun b => b < B) B 16 [] := by rw [hw1, hB]; exact ph_new w _ (fun b h => h) 16 (by omega)
  have hk1 : Ked (fun b => b < B) w w1 := by rw [hw1]; exact (Ked.refl _ _).alloc _
  rw [← hB]
  have H1 := Lib.hid h1
  have HK1 := Lib.hid hk1
  have HB := Lib.hid hB
  clear h1 hk1 hw1 hB
  go_wp2_with fail
  refine (aw_num w1).mono ?_
  rintro e w2 ⟨rfl, rfl⟩
  go_wp2_with fail
  refine (aw_num2 w1).mono ?_
  rintro e w2 ⟨rfl, rfl⟩
  go_wp2_with fail
  refine (palloc_made H1.out 1 [5, 9] (by decide) (by decide)).mono ?_
  rw [aw_alloc1]
  rintro e w2 ⟨rfl, h2, hk2⟩
  have H2 := Lib.hid h2
  have HK2 := Lib.hid (HK1.out.trans hk2)
  clear h2 hk2 H1 HK1
  go_wp2_with fail
  refine (aw_num3 w2).mono ?_
  rintro e w3 ⟨rfl, rfl⟩
  go_wp2_with fail
  refine (palloc_made H2.out 2 [18446744073709551605] (by decide) (by decide)).mono ?_
  rw [aw_alloc2]
  rintro e w3 ⟨rfl, h3, hk3⟩
  have H3 := Lib.hid h3
  have HK3 := Lib.hid (HK2.out.trans hk3)
  clear h3 hk3 H2 HK2
  go_wp2_with fail
  refine (pset_ok H3.out 16 (by omega) 0 16 (by omega) aw_set).mono ?_
  rintro e w4 ⟨rfl, h4, hk4⟩
  have H4 := Lib.hid h4
  have HK4 := Lib.hid (HK3.out.trans hk4)
  clear h4 hk4 H3 HK3
  go_wp2_with fail
  refine (aw_imm w4).mono ?_
  rintro e w5 ⟨rfl, rfl⟩
  go_wp2_with fail
  refine (pcollect_made H4.out [22, 16] (by decide) (by decide)).mono ?_
  rintro e w5 ⟨v, rfl, h5, _, h6, hk5⟩
  rw [aw_coll] at h5 h6
  obtain ⟨g, c, rfl, e1, _⟩ := RowM.elem (l := [22, 4]) h5 (j := 1) (by decide)
  obtain ⟨g', c', hv, e0, _⟩ := RowM.elem (l := [22, 4]) h5 (j := 0) (by decide)
  cases hv
  change w5.cell? ⟨g, 1, none⟩ = some (.int .u64 4) at e1
  change w5.cell? ⟨g, 0, none⟩ = some (.int .u64 22) at e0
  have h7 : PhAt w5 (fun b => b < B) B 16 [⟨2, [4]⟩] := h6.mono fun b hb => .inl hb
  have HK5 := Lib.hid (HK4.out.trans hk5)
  have HKD := Lib.hid (fun d => by have := pkind_any (h7.drew d) 4 (by omega); rw [aw_kind] at this; exact this)
  have HFD := Lib.hid (fun d => by have := pfield_any (h7.drew d) 4 (by omega) 0; rw [aw_field] at this; exact this)
  have H7 := Lib.hid h7
  clear h5 h6 h7 hk5 H4 HK4
  go_wp2_with fail
  refine (HKD.out 0).mono ?_
  rintro e w6 ⟨rfl, d6, rfl⟩
  rw [World.drewN_drewN]
  go_wp2_with fail
  refine (HFD.out _).mono ?_
  rintro e w7 ⟨rfl, d7, rfl⟩
  rw [World.drewN_drewN]
  go_wp2_with fail
  refine (aw_num3 _).mono ?_
  rintro e w8 ⟨rfl, rfl⟩
  go_wp2_with fail
  refine (pnbr_any 18446744073709551605 (by omega) _).mono ?_
  rw [aw_nbr]
  rintro e w8 ⟨rfl, rfl⟩
  go_upto_region 13 with fail
  obtain ⟨dd, hdd⟩ : ∃ dd, dd = d6 + d7 := ⟨_, rfl⟩
  rw [← hdd]
  have H8 := Lib.hid (H7.out.drew dd)
  have HK8 := Lib.hid (HK5.out.trans (Ked.drew _ w5 dd))
  have g0 : (w5.drewN dd).cell? ⟨g, 0, none⟩ = some (.int .u64 22) := e0
  have g1 : (w5.drewN dd).cell? ⟨g, 1, none⟩ = some (.int .u64 4) := e1
  clear hdd e0 e1 H7 HK5 HKD HFD
  generalize w5.drewN dd = wS at *
  have HQ1 := Lib.hid (fun d => (pused_any (H8.out.drew d)).mono fun e w' (h : e = .returned (.int .i64 2) ∧ wS.drewN d = w') => And.intro h.1 h.2.symm)
  have HQ2 := Lib.hid (fun d => (aw_imm (wS.drewN d)).mono fun e w' (h : e = .returned (.int .u64 22) ∧ wS.drewN d = w') => And.intro h.1 h.2.symm)
  have HQ3 := Lib.hid (fun d => (aw_ptr (wS.drewN d)).mono fun e w' (h : e = .returned (.int .u64 4) ∧ wS.drewN d = w') => And.intro h.1 h.2.symm)
  have HQ4 := Lib.hid (fun d => (proom_any (H8.out.drew d)).mono fun e w' (h : e = .returned (.int .i64 14) ∧ ∃ d2, w' = (wS.drewN d).drewN d2) => h)
  go_quiet ((first | (go_at_call 36; exact Calls.quiet_of_same (HQ2.out _)) | (go_at_call 28; exact Calls.quiet_of_same (HQ3.out _)) | (go_at_call 19; exact Calls.quiet_of_same (HQ1.out _)) | (go_at_call 21; exact quiet_drew (HQ4.out _))))
  go_wp2
  go_ret
  refine ⟨rfl, ((HK8.out.trans (Ked.drew _ wS _)).below (fun k hk => by rw [HB.out]; exact hk) (Nat.le_refl _))⟩
end Go.Proofs.Ytfboejdddgedcaa

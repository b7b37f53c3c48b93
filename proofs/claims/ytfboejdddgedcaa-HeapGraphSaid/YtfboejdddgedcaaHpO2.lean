import Derived.Test.YtfboejdddgedcaaHpO
namespace Go.Proofs.Ytfboejdddgedcaa
open Go.RowKit

theorem pset_any {w : World} {N : Nat → Prop} {hb cap : Nat} {l : List Ob} (h : PhAt w N hb cap l) (x : Nat) (hx : x < 18446744073709551616) (i : Int) (y : Nat) (hy : y < 18446744073709551616) :
    Calls Try.prog 14 #[.pointer (some ⟨hb, 0, none⟩), .int .u64 x, .int .i64 i, .int .u64 y] w fun e w' => (∃ z : Int, e = .returned (.int .i64 z)) ∧ PhAt w' N hb cap ((setH l x i y).getD l) ∧ Ked N w w' := by
  cases hn : setH l x i y with
  | none =>
    refine (pset_bad h x hx i y hn).mono ?_
    rintro e w' ⟨rfl, d, rfl⟩
    exact ⟨⟨_, rfl⟩, h.drew d, Ked.drew _ _ _⟩
  | some l' =>
    refine (pset_ok h x hx i y hy hn).mono ?_
    rintro e w' ⟨rfl, h1, h2⟩
    exact ⟨⟨_, rfl⟩, h1, h2⟩
def setT (l : List Ob) (x : Nat) (i : Int) (y : Nat) : List Ob := (setH l x i y).getD l
/-- the words of all objects, and how many there are -/
structure MadeP (L : List Ob) (made : List Nat) (i : Nat) : Prop where
  len : made.length = L.length
  at_ : ∀ k, k < L.length → made.getD k 0 = wordH L k
  fl : ∀ k, k < L.length → (L.getD k ob0).f.length ≤ 20
  cnt : L.length ≤ i
theorem MadeP.set {L : List Ob} {made : List Nat} {i : Nat} (h : MadeP L made i) (x : Nat) (j : Int) (y : Nat) : MadeP (setT L x j y) made (i + 1) := by
  unfold setT
  cases hn : setH L x j y with
  | none => exact ⟨h.len, h.at_, h.fl, by have := h.cnt; show L.length ≤ i + 1; omega⟩
  | some l' =>
    obtain ⟨k, q, hat, rfl, hq, rfl⟩ := set_yes hn
    have hk := (atH_some.1 hat).1
    have hs := setF_sz (L.getD k ob0) q y
    refine ⟨?_, fun t ht => ?_, fun t ht => ?_, ?_⟩
    · show made.length = (L.set k _).length
      rw [List.length_set]; exact h.len
    · have ht' : t < L.length := by simpa using ht
      show made.getD t 0 = wordH (L.set k _) t
      unfold wordH
      rw [adrH_set hk hs, h.at_ t ht']; rfl
    · have ht' : t < L.length := by simpa using ht
      show ((L.set k _).getD t ob0).f.length ≤ 20
      by_cases e : k = t
      · subst e; rw [getO_set_eq hk]; show ((L.getD k ob0).f.set q y).length ≤ 20; rw [List.length_set]; exact h.fl k hk
      · rw [getO_set_ne e]; exact h.fl t ht'
    · show (L.set k _).length ≤ i + 1
      rw [List.length_set]; have := h.cnt; omega
theorem MadeP.up {L : List Ob} {made : List Nat} {i : Nat} (h : MadeP L made i) : MadeP L made (i + 1) := ⟨h.len, h.at_, h.fl, by have := h.cnt; omega⟩
theorem MadeP.add {L : List Ob} {made : List Nat} {i : Nat} (h : MadeP L made i) (o : Ob) (ho : o.f.length ≤ 20) : MadeP (L ++ [o]) (made ++ [4 * (usedH L + 1)]) (i + 1) := by
  refine ⟨by simp [h.len], fun k hk => ?_, fun k hk => ?_, by simp; exact h.cnt⟩
  · rw [List.length_append, List.length_singleton] at hk
    unfold wordH
    rw [adrH_app L [o] (by omega)]
    by_cases e : k = L.length
    · subst e; rw [adrH_end, getD_app_ge (by rw [h.len]; exact Nat.le_refl _), h.len]; simp; omega
    · rw [getD_app_lt (by rw [h.len]; omega), h.at_ k (by omega)]; rfl
  · rw [List.length_append, List.length_singleton] at hk
    by_cases e : k = L.length
    · subst e; rw [getO_app_one]; exact ho
    · rw [getO_app_lt (by omega)]; exact h.fl k (by omega)
theorem MadeP.small {L : List Ob} {made : List Nat} {i : Nat} (h : MadeP L made i) (hu : usedH L ≤ 1048576) : ∀ y ∈ made, y < 18446744073709551616 := by
  intro y hy
  obtain ⟨k, hk, rfl⟩ := List.getElem_of_mem hy
  have hk2 : k < L.length := by rw [← h.len]; exact hk
  have h1 := h.at_ k hk2
  have h2 : made.getD k 0 = made[k] := by simp [List.getD_eq_getElem?_getD, hk]
  have h3 := adrH_le (l := L) (i := k) (j := L.length) (by omega) (Nat.le_refl _)
  rw [adrH_end] at h3
  rw [← h2, h1]
  unfold wordH
  omega
theorem alloc_zero {cap pw : Nat} {l L' : List Ob} {kind : Int} {fs : List Nat} (h : allocH cap l kind fs = (pw, 0, L')) : pw = 4 * (usedH l + 1) ∧ L' = l ++ [⟨kind, fs⟩] := by
  unfold allocH at h
  by_cases h1 : kind < 1 ∨ 127 < kind ∨ 65536 < fs.length
  · rw [if_pos h1] at h; cases h
  · rw [if_neg h1] at h
    by_cases h2 : cap < usedH l + (fs.length + 1)
    · rw [if_pos h2] at h; cases h
    · rw [if_neg h2] at h; cases h; exact ⟨rfl, rfl⟩
theorem alloc_nonzero {cap pw z : Nat} {l L' : List Ob} {kind : Int} {fs : List Nat} (h : allocH cap l kind fs = (pw, z, L')) (hz : z ≠ 0) : L' = l := by
  unfold allocH at h
  by_cases h1 : kind < 1 ∨ 127 < kind ∨ 65536 < fs.length
  · rw [if_pos h1] at h; cases h; rfl
  · rw [if_neg h1] at h
    by_cases h2 : cap < usedH l + (fs.length + 1)
    · rw [if_pos h2] at h; cases h; rfl
    · rw [if_neg h2] at h; cases h; exact absurd rfl hz
/-- what the heap does not touch while the law fills it -/
def NB (w : World) (v : Value) (k : Nat) : Prop := k < w.heap.size ∨ v.ownBlock = some k
/-- what filled hands back -/
def FillPost (w : World) (e : Ending) (w' : World) : Prop := ∃ (hb : Nat) (a : Option Addr) (n c : Nat) (ok : Bool) (L : List Ob) (made : List Nat), e = .returned (.tuple #[.pointer (some ⟨hb, 0, none⟩), .slice a n c, .bool ok]) ∧ PhAt w' (NB w (.slice a n c)) hb 16384 L ∧ RowM w' (.slice a n c) made ∧
  (∀ k, (Value.slice a n c).ownBlock = some k → w.heap.size ≤ k) ∧ Below w.heap.size w w' ∧ (ok = true → MadeP L made 40)

set_option maxRecDepth 100000 in
set_option maxHeartbeats 16000000 in
theorem filled_any {w : World} {ok : Nat → Prop} {u : Value} {l : List Op8} (hu : OpS w ok u l) (hok : ∀ b, ok b → b < w.heap.size) : Calls Try.prog 37 #[u] w (FillPost w) := by
  obtain ⟨ua, un, uc, rfl, hun⟩ : ∃ a n c, u = .slice a n c ∧ n = l.length := by
    cases hu with
    | mkNil a c => exact ⟨_, _, _, rfl, rfl⟩
    | mkSome b off cap n l h1 h2 h3 h4 => exact ⟨_, _, _, rfl, h2⟩
  have hum : un ≤ maxLen := by
    cases hu with
    | mkNil a c => exact Nat.zero_le _
    | mkSome b off cap n l h1 h2 h3 h4 => exact h3.1
  have hum2 : (un : Int) ≤ 9223372036854775807 := by unfold maxLen at hum; omega
  have HOP := Lib.hid (fun j (hj : j < l.length) => show ∃ b off, ua = some ⟨b, off, none⟩ ∧ ok b ∧ ∃ fv, OpAt w ok b (off + j * 7) (l.getD j op0) fv by
    cases hu with
    | mkNil a c => exact absurd hj (Nat.not_lt_zero _)
    | mkSome b off cap n l h1 h2 h3 h4 => exact ⟨b, off, rfl, h1, h4 j hj⟩)
  have HUN := Lib.hid hun
  have HOK0 := Lib.hid hok
  clear hu hun hum hok
  have q24 : ∀ (w : World) (g : Nat), (binOp .eql 24 (.pointer (some ⟨g, 0, none⟩)) (.pointer none)).run Try.prog w = .ok (.bool false) w := fun w g => rfl
  go_enter Try.func37, Try.ntmps37
  go_wp2_with fail
  refine (pnew_ok 16384 (by omega) (by omega) w).mono ?_
  rintro e w1 ⟨rfl, hw1⟩
  obtain ⟨hb, hhb⟩ : ∃ hb, hb = w.heap.size := ⟨_, rfl⟩
  rw [← hhb]
  have HP0 := Lib.hid (show PhAt w1 (NB w (.slice none 0 0)) hb 16384 [] by
    rw [hw1, hhb]
    exact ph_new w _ (fun b hb => hb.elim id nofun) 16384 (by omega))
  have HL0 := Lib.hid (show Below w.heap.size w w1 by rw [hw1]; exact (Below.refl _ _).alloc (Nat.le_refl _) _)
  clear hw1 hhb
  by_cases h40 : 40 < un
  · go_wp2
    go_ret3
    exact ⟨hb, none, 0, 0, false, [], [], rfl, HP0.out, World.ownsRow_nil _ _ _ _, nofun, HL0.out, nofun⟩
  go_wp2
  go_loopw [7, 8] (fun mv iv wr => ∃ (i : Nat) (L : List Ob) (made : List Nat) (a : Option Addr) (m c : Nat), i ≤ un ∧ iv = .int .i64 i ∧ mv = .slice a m c ∧ Hid (PhAt wr (NB w (.slice a m c)) hb 16384 L) ∧ Hid (RowM wr (.slice a m c) made) ∧ Hid (MadeP L made i) ∧ Hid (∀ k, (Value.slice a m c).ownBlock = some k → w.heap.size ≤ k) ∧ Hid (Below w.heap.size w wr)) (fun _ iv _ => un - (intOf iv).toNat)
  case atStart => exact ⟨0, [], [], none, 0, 0, Nat.zero_le _, rfl, rfl, HP0, Lib.hid (World.ownsRow_nil _ _ _ _), Lib.hid ⟨rfl, fun k hk => absurd hk (Nat.not_lt_zero _), fun k hk => absurd hk (Nat.not_lt_zero _), Nat.le_refl _⟩, Lib.hid nofun, HL0⟩
  case round =>
    obtain ⟨i, L, made, a, m, c, hi, rfl, rfl, HP, HR, HMP, HF, HL⟩ := hrel
    by_cases hlt : i < un
    · obtain ⟨b, off, rfl, hb0, fv, hop⟩ := HOP.out i (by rw [← HUN.out]; exact hlt)
      have hbl := HOK0.out b hb0
      have hcl : ∀ o, wr.cell? ⟨b, o, none⟩ = w.cell? ⟨b, o, none⟩ := fun o => HL.out.cell (p := ⟨b, o, none⟩) hbl
      have e0 := (hcl _).trans hop.c0
      have e1 := (hcl _).trans hop.c1
      have e2 := (hcl _).trans hop.c2
      have e3 := (hcl _).trans hop.c3
      have e4 := (hcl _).trans hop.c4
      have e5 := (hcl _).trans hop.c5
      have e6 := (hcl _).trans hop.c6
      have HLT := Lib.hid hop.lt
      obtain ⟨okf, HFV0⟩ : ∃ okf : Nat → Prop, Hid (okf = ok) := ⟨ok, rfl⟩
      have HFV := Lib.hid (show WdS wr okf fv (l.getD i op0).f by rw [HFV0.out]; exact hop.fs.mono (fun _ h => h) (fun k o hk => HL.out.cell (p := ⟨k, o, none⟩) (HOK0.out k hk)))
      have HOKF := Lib.hid (show ∀ k, okf k → k < w.heap.size by rw [HFV0.out]; exact HOK0.out)
      obtain ⟨fa, fc, rfl⟩ := hop.fs.val
      obtain ⟨fn, hfn0⟩ : ∃ fn, fn = (l.getD i op0).f.length := ⟨_, rfl⟩
      rw [← hfn0] at HFV e6
      have HFL := Lib.hid hfn0
      have hfm : (fn : Int) ≤ 9223372036854775807 := by have := hop.fs.len; rw [← hfn0] at this; unfold maxLen at this; omega
      clear hop hcl hbl hb0 hfn0 HFV0
      generalize l.getD i op0 = o at *
      obtain ⟨g, hg⟩ : ∃ g, g = wr.heap.size := ⟨_, rfl⟩
      have HG := Lib.hid hg
      clear hg
      have HU := Lib.hid HP.out.used
      have HML := Lib.hid (HMP.out.small (Nat.le_trans HU.out.1 HU.out.2.1))
      have HM2 := Lib.hid (show made.length ≤ 100000 by rw [HMP.out.len]; have := len_used L; have := HU.out.1; omega)
      obtain ⟨N1, hN1⟩ : ∃ N1 : Nat → Prop, N1 = fun k => NB w (.slice a m c) k ∨ k = g := ⟨_, rfl⟩
      have HG1 := Lib.hid (show N1 g by rw [hN1]; exact .inr rfl)
      have HG2 := Lib.hid (show ∀ k, k < w.heap.size → N1 k by rw [hN1]; exact fun k hk => .inl (.inl hk))
      have HG3 := Lib.hid (show ∀ k, (Value.slice a m c).ownBlock = some k → N1 k by rw [hN1]; exact fun k hk => .inl (.inr hk))
      have HGN := Lib.hid (show ∀ k, NB w (.slice a m c) k → N1 k by rw [hN1]; exact fun k hk => .inl hk)
      have HPF := Lib.hid (show ∀ x, PhAt (wr.alloc x) N1 hb 16384 L by rw [hN1, HG.out]; exact fun x => HP.out.fresh x)
      have HRF := Lib.hid (show ∀ x, RowM (wr.alloc x) (.slice a m c) made from fun x => HR.out.keep fun k hk => Below.heap_alloc _ _ _ (HR.out.lt hk))
      have HLF := Lib.hid (show ∀ x, Below w.heap.size w (wr.alloc x) from fun x => HL.out.alloc HL.out.size _)
      have HFF := Lib.hid (show ∀ x, WdS (wr.alloc x) okf (.slice fa fn fc) o.f from fun x => HFV.out.mono (fun _ h => h) (fun k q hk => ((Below.refl wr.heap.size wr).alloc (Nat.le_refl _) x).cell (p := ⟨k, q, none⟩) (Nat.lt_of_lt_of_le (HOKF.out k hk) HL.out.size)))
      clear hN1
      by_cases h20 : 20 < fn
      · go_wp2
        go_ret3
        exact ⟨hb, none, 0, 0, false, L, [], rfl, (HPF.out _).mono fun k hk => HG2.out k (hk.elim id nofun), World.ownsRow_nil _ _ _ _, nofun, HLF.out _, nofun⟩
      have hfn : fn ≤ 20 := by omega
      by_cases h4 : o.do_ = 4
      · have hd4 : (o.do_ == 4) = true := by rw [h4]; rfl
        have H4 := Lib.hid h4
        clear h4
        go_wp2
        rw [← HG.out]
        have HBX := Lib.hid (show (wr.alloc (.cells #[.int .i64 o.do_, .int .i64 o.kind, .int .i64 o.i, .int .u64 (o.w : Nat), .int .u64 (o.x : Nat), .int .u64 (o.by_ : Nat), .slice fa fn fc] 34)).heap[g]? = some (.cells #[.int .i64 o.do_, .int .i64 o.kind, .int .i64 o.i, .int .u64 (o.w : Nat), .int .u64 (o.x : Nat), .int .u64 (o.by_ : Nat), .slice fa fn fc] 34 (0, 0)) from by rw [HG.out]; exact heap_alloc_new _ _)
        have HP1 := Lib.hid (HPF.out (.cells #[.int .i64 o.do_, .int .i64 o.kind, .int .i64 o.i, .int .u64 (o.w : Nat), .int .u64 (o.x : Nat), .int .u64 (o.by_ : Nat), .slice fa fn fc] 34))
        have HR1 := Lib.hid (HRF.out (.cells #[.int .i64 o.do_, .int .i64 o.kind, .int .i64 o.i, .int .u64 (o.w : Nat), .int .u64 (o.x : Nat), .int .u64 (o.by_ : Nat), .slice fa fn fc] 34))
        have HL1 := Lib.hid (HLF.out (.cells #[.int .i64 o.do_, .int .i64 o.kind, .int .i64 o.i, .int .u64 (o.w : Nat), .int .u64 (o.x : Nat), .int .u64 (o.by_ : Nat), .slice fa fn fc] 34))
        have HFV1 := Lib.hid (HFF.out (.cells #[.int .i64 o.do_, .int .i64 o.kind, .int .i64 o.i, .int .u64 (o.w : Nat), .int .u64 (o.x : Nat), .int .u64 (o.by_ : Nat), .slice fa fn fc] 34))
        have HSZ1 := Lib.hid (show wr.heap.size ≤ (wr.alloc (.cells #[.int .i64 o.do_, .int .i64 o.kind, .int .i64 o.i, .int .u64 (o.w : Nat), .int .u64 (o.x : Nat), .int .u64 (o.by_ : Nat), .slice fa fn fc] 34)).heap.size by simp)
        clear HPF HRF HLF HFF HP HR HL HFV e0 e1 e2 e3 e4 e5 e6
        generalize wr.alloc (.cells #[.int .i64 o.do_, .int .i64 o.kind, .int .i64 o.i, .int .u64 (o.w : Nat), .int .u64 (o.x : Nat), .int .u64 (o.by_ : Nat), .slice fa fn fc] 34) = w1 at *
        (try dsimp only [List.append])
        refine wp_region_noPanic ?_
        refine wp_region_held_drew (S := (fun w' => w'.heap[g]? = some (.cells #[.int .i64 o.do_, .int .i64 o.kind, .int .i64 o.i, .int .u64 (o.w : Nat), .int .u64 (o.x : Nat), .int .u64 (o.by_ : Nat), .slice fa fn fc] 34 (0, 0)))) (by kernel_rfl) (by (try dsimp only); exact HBX.out) (fun hHeld => ?_)
        have HBd := Lib.hid (show w1.drew.heap[g]? = some (.cells #[.int .i64 o.do_, .int .i64 o.kind, .int .i64 o.i, .int .u64 (o.w : Nat), .int .u64 (o.x : Nat), .int .u64 (o.by_ : Nat), .slice fa fn fc] 34 (0, 0)) from HBX.out)
        have HPd := Lib.hid (show PhAt w1.drew N1 hb 16384 L from HP1.out.drew 1)
        have HRd := Lib.hid (show RowM w1.drew (.slice a m c) made from HR1.out.keep fun _ _ => rfl)
        have HKd := Lib.hid (show Below w.heap.size w w1.drew from HL1.out.drew)
        clear HBX HP1 HR1 HL1
        generalize w1.drew = wd at hHeld HBd HPd HRd HKd ⊢
        have HWD := Lib.hid (HRd.out.wds HML.out)
        refine' tk_any 0 42 (v := _) ?hi1 ?hd1 (by kernel_rfl) (by kernel_rfl) (by kernel_rfl) (fun _ _ _ h => h) ?hy1 hHeld ?hr1
        case hi1 => (simp only [List.getElem?_toArray, List.getElem?_cons_zero]; rfl)
        case hd1 => rfl
        case hy1 =>
          refine' Or.inl ⟨?hw1, ?hx1⟩
          case hw1 => rfl
          case hx1 => (intro w hSw; (try dsimp only at hSw); go_simp; (try with_reducible rfl))
        (try simp only [Act.put, List.setIfInBounds_toArray, List.set_cons_zero, List.set_cons_succ])
        refine' tk_any 1 43 (v := _) ?hi2 ?hd2 (by kernel_rfl) (by kernel_rfl) (by kernel_rfl) (fun _ _ _ h => h) ?hy2 hHeld ?hr2
        case hi2 => (simp only [List.getElem?_toArray, List.getElem?_cons_succ, List.getElem?_cons_zero]; rfl)
        case hd2 => rfl
        case hy2 =>
          refine' Or.inl ⟨?hw2, ?hx2⟩
          case hw2 => rfl
          case hx2 => (intro w hSw; (try dsimp only at hSw); go_simp; (try with_reducible rfl))
        (try simp only [Act.put, List.setIfInBounds_toArray, List.set_cons_zero, List.set_cons_succ])
        refine' tk_any 2 44 (v := _) ?hi3 ?hd3 (by kernel_rfl) (by kernel_rfl) (by kernel_rfl) (fun _ _ _ h => h) ?hy3 hHeld ?hr3
        case hi3 => (simp only [List.getElem?_toArray, List.getElem?_cons_succ, List.getElem?_cons_zero]; rfl)
        case hd3 => rfl
        case hy3 =>
          refine' Or.inl ⟨?hw3, ?hx3⟩
          case hw3 => rfl
          case hx3 => (intro w hSw; (try dsimp only at hSw); have y3 := Lib.cell_of_heap hSw 3; go_simp; (try with_reducible rfl))
        (try simp only [Act.put, List.setIfInBounds_toArray, List.set_cons_zero, List.set_cons_succ])
        refine' tk_any 3 45 (v := _) ?hi4 ?hd4 (by kernel_rfl) (by kernel_rfl) (by kernel_rfl) (fun _ _ _ h => h) ?hy4 hHeld ?hr4
        case hi4 => (simp only [List.getElem?_toArray, List.getElem?_cons_succ, List.getElem?_cons_zero]; rfl)
        case hd4 => rfl
        case hy4 =>
          refine' Or.inl ⟨?hw4, ?hx4⟩
          case hw4 => rfl
          case hx4 => (intro w hSw; (try dsimp only at hSw); go_simp; (try with_reducible rfl))
        (try simp only [Act.put, List.setIfInBounds_toArray, List.set_cons_zero, List.set_cons_succ])
        refine' tk_any 4 46 (v := _) ?hi5 ?hd5 (by kernel_rfl) (by kernel_rfl) (by kernel_rfl) (fun _ _ _ h => h) ?hy5 hHeld ?hr5
        case hi5 => (simp only [List.getElem?_toArray, List.getElem?_cons_succ, List.getElem?_cons_zero]; rfl)
        case hd5 => rfl
        case hy5 =>
          refine' Or.inl ⟨?hw5, ?hx5⟩
          case hw5 => rfl
          case hx5 => (intro w hSw; (try dsimp only at hSw); have y5 := Lib.cell_of_heap hSw 5; go_simp; (try with_reducible rfl))
        (try simp only [Act.put, List.setIfInBounds_toArray, List.set_cons_zero, List.set_cons_succ])
        refine' tk_any 5 47 (v := _) ?hi6 ?hd6 (by kernel_rfl) (by kernel_rfl) (by kernel_rfl) (fun _ _ _ h => h) ?hy6 hHeld ?hr6
        case hi6 => (simp only [List.getElem?_toArray, List.getElem?_cons_succ, List.getElem?_cons_zero]; rfl)
        case hd6 => rfl
        case hy6 =>
          refine' Or.inl ⟨?hw6, ?hx6⟩
          case hw6 => rfl
          case hx6 => (intro w hSw; (try dsimp only at hSw); go_simp; (try with_reducible rfl))
        (try simp only [Act.put, List.setIfInBounds_toArray, List.set_cons_zero, List.set_cons_succ])
        refine' tk_any 7 49 (v := _) ?hi7 ?hd7 (by kernel_rfl) (by kernel_rfl) (by kernel_rfl) (fun _ _ _ h => h) ?hy7 hHeld ?hr7
        case hi7 => (simp only [List.getElem?_toArray, List.getElem?_cons_succ, List.getElem?_cons_zero]; rfl)
        case hd7 => rfl
        case hy7 =>
          refine' Or.inl ⟨?hw7, ?hx7⟩
          case hw7 => rfl
          case hx7 => (intro w hSw; (try dsimp only at hSw); go_simp; (try with_reducible rfl))
        (try simp only [Act.put, List.setIfInBounds_toArray, List.set_cons_zero, List.set_cons_succ])
        refine' tk_any 8 50 (v := _) ?hi8 ?hd8 (by kernel_rfl) (by kernel_rfl) (by kernel_rfl) (fun _ _ _ h => h) ?hy8 hHeld ?hr8
        case hi8 => (simp only [List.getElem?_toArray, List.getElem?_cons_succ, List.getElem?_cons_zero]; rfl)
        case hd8 => rfl
        case hy8 =>
          refine' Or.inl ⟨?hw8, ?hx8⟩
          case hw8 => rfl
          case hx8 => (intro w hSw; (try dsimp only at hSw); have y2 := Lib.cell_of_heap hSw 2; go_simp; (try with_reducible rfl))
        (try simp only [Act.put, List.setIfInBounds_toArray, List.set_cons_zero, List.set_cons_succ])
        refine' tk_any 9 51 (v := _) ?hi9 ?hd9 (by kernel_rfl) (by kernel_rfl) (by kernel_rfl) (fun _ _ _ h => h) ?hy9 hHeld ?hr9
        case hi9 => (simp only [List.getElem?_toArray, List.getElem?_cons_succ, List.getElem?_cons_zero]; rfl)
        case hd9 => rfl
        case hy9 =>
          refine' Or.inl ⟨?hw9, ?hx9⟩
          case hw9 => rfl
          case hx9 => (intro w hSw; (try dsimp only at hSw); go_simp; (try with_reducible rfl))
        (try simp only [Act.put, List.setIfInBounds_toArray, List.set_cons_zero, List.set_cons_succ])
        refine' tk_any 10 52 (v := _) ?hi10 ?hd10 (by kernel_rfl) (by kernel_rfl) (by kernel_rfl) (fun _ _ _ h => h) ?hy10 hHeld ?hr10
        case hi10 => (simp only [List.getElem?_toArray, List.getElem?_cons_succ, List.getElem?_cons_zero]; rfl)
        case hd10 => rfl
        case hy10 =>
          refine' Or.inl ⟨?hw10, ?hx10⟩
          case hw10 => rfl
          case hx10 => (intro w hSw; (try dsimp only at hSw); have y4 := Lib.cell_of_heap hSw 4; go_simp; (try with_reducible rfl))
        (try simp only [Act.put, List.setIfInBounds_toArray, List.set_cons_zero, List.set_cons_succ])
        refine' tk_any 11 53 (v := _) ?hi11 ?hd11 (by kernel_rfl) (by kernel_rfl) (by kernel_rfl) (fun _ _ _ h => h) ?hy11 hHeld ?hr11
        case hi11 => (simp only [List.getElem?_toArray, List.getElem?_cons_succ, List.getElem?_cons_zero]; rfl)
        case hd11 => rfl
        case hy11 =>
          refine' Or.inl ⟨?hw11, ?hx11⟩
          case hw11 => rfl
          case hx11 => (intro w hSw; (try dsimp only at hSw); go_simp; (try with_reducible rfl))
        (try simp only [Act.put, List.setIfInBounds_toArray, List.set_cons_zero, List.set_cons_succ])
        refine' tk_any 12 54 (v := _) ?hi12 ?hd12 (by kernel_rfl) (by kernel_rfl) (by kernel_rfl) (fun _ _ _ h => h) ?hy12 hHeld ?hr12
        case hi12 => (simp only [List.getElem?_toArray, List.getElem?_cons_succ, List.getElem?_cons_zero]; rfl)
        case hd12 => rfl
        case hy12 =>
          refine' Or.inl ⟨?hw12, ?hx12⟩
          case hw12 => rfl
          case hx12 => (intro w hSw; (try dsimp only at hSw); have y5 := Lib.cell_of_heap hSw 5; go_simp; (try with_reducible rfl))
        (try simp only [Act.put, List.setIfInBounds_toArray, List.set_cons_zero, List.set_cons_succ])
        refine' tk_any 13 55 (v := _) ?hi13 ?hd13 (by kernel_rfl) (by kernel_rfl) (by kernel_rfl) (fun _ _ _ h => h) ?hy13 hHeld ?hr13
        case hi13 => (simp only [List.getElem?_toArray, List.getElem?_cons_succ, List.getElem?_cons_zero]; rfl)
        case hd13 => rfl
        case hy13 =>
          refine' Or.inl ⟨?hw13, ?hx13⟩
          case hw13 => rfl
          case hx13 => (intro w hSw; (try dsimp only at hSw); go_simp; (try with_reducible rfl))
        (try simp only [Act.put, List.setIfInBounds_toArray, List.set_cons_zero, List.set_cons_succ])
        refine' tk_call 6 ?hi14 (by kernel_rfl) ?hr14
        case hi14 => (simp only [List.getElem?_toArray, List.getElem?_cons_succ, List.getElem?_cons_zero]; rfl)
        intro K hK
        go_simp
        go_at_call 10
        refine (word_any HWD.out o.w o.by_ HLT.out.1 HLT.out.2.2 HM2.out).mono ?_
        rintro e w2 ⟨rfl, rfl⟩
        go_wp2_with fail
        clear hHeld
        refine hK.out _ _ (by (try dsimp only); exact HBd.out) (fun hHeld => ?_)
        clear hK K
        (try simp only [Act.put, List.setIfInBounds_toArray, List.set_cons_zero, List.set_cons_succ])
        refine' tk_call 14 ?hi15 (by kernel_rfl) ?hr15
        case hi15 => (simp only [List.getElem?_toArray, List.getElem?_cons_succ, List.getElem?_cons_zero]; rfl)
        intro K hK
        go_simp
        go_at_call 10
        refine (word_any HWD.out o.x o.by_ HLT.out.2.1 HLT.out.2.2 HM2.out).mono ?_
        rintro e w2 ⟨rfl, rfl⟩
        go_wp2_with fail
        clear hHeld
        refine hK.out _ _ (by (try dsimp only); exact HBd.out) (fun hHeld => ?_)
        clear hK K
        (try simp only [Act.put, List.setIfInBounds_toArray, List.set_cons_zero, List.set_cons_succ])
        refine' tk_call 15 ?hi16 (by kernel_rfl) ?hr16
        case hi16 => (simp only [List.getElem?_toArray, List.getElem?_cons_succ, List.getElem?_cons_zero]; rfl)
        intro K hK
        go_simp
        go_at_call 14
        refine (pset_any HPd.out _ (wordL_lt HLT.out.1 HML.out) o.i _ (wordL_lt HLT.out.2.1 HML.out)).mono ?_
        rintro e w3 ⟨⟨z, rfl⟩, hp3, hk3⟩
        have HB3 := Lib.hid ((hk3.block g (Array.getElem?_eq_some_iff.1 HBd.out).1 HG1.out).trans HBd.out)
        have HP3 := Lib.hid hp3
        have HR3 := Lib.hid (HRd.out.keep fun k hk => hk3.block k (HRd.out.lt hk) (HG3.out k hk))
        have HL3 := Lib.hid (HKd.out.trans (hk3.below (B := w.heap.size) (fun k hk => HG2.out k hk) HKd.out.size))
        clear hp3 hk3
        go_wp2_with fail
        clear hHeld
        refine hK.out _ _ (by (try dsimp only); exact HB3.out) (fun hHeld => ?_)
        clear hK K
        (try simp only [Act.put, List.setIfInBounds_toArray, List.set_cons_zero, List.set_cons_succ])
        refine wpAnyH_done (by kernel_rfl) ?_ _
        refine NoPanic.normal ?_
        go_wp2
        refine ⟨⟨i + 1, setT L (wordL o.w o.by_ made) o.i (wordL o.x o.by_ made), made, a, m, c, by omega, by go_num, rfl, Lib.hid (HP3.out.mono HGN.out), HR3, Lib.hid (HMP.out.set _ _ _), HF, HL3⟩, by simp [intOf]; omega⟩
      · have hd4 : (o.do_ == 4) = false := by rw [beq_eq_false_iff_ne]; exact h4
        have H4 := Lib.hid h4
        clear h4
        obtain ⟨pw, z, L', hal⟩ : ∃ pw z L', allocH 16384 L o.kind (wordsL o.f o.by_ made) = (pw, z, L') := ⟨_, _, _, rfl⟩
        have HAL := Lib.hid hal
        clear hal
        go_wp2
        rw [← HG.out]
        have HBX := Lib.hid (show (wr.alloc (.cells #[.int .i64 o.do_, .int .i64 o.kind, .int .i64 o.i, .int .u64 (o.w : Nat), .int .u64 (o.x : Nat), .int .u64 (o.by_ : Nat), .slice fa fn fc] 34)).heap[g]? = some (.cells #[.int .i64 o.do_, .int .i64 o.kind, .int .i64 o.i, .int .u64 (o.w : Nat), .int .u64 (o.x : Nat), .int .u64 (o.by_ : Nat), .slice fa fn fc] 34 (0, 0)) from by rw [HG.out]; exact heap_alloc_new _ _)
        have HP1 := Lib.hid (HPF.out (.cells #[.int .i64 o.do_, .int .i64 o.kind, .int .i64 o.i, .int .u64 (o.w : Nat), .int .u64 (o.x : Nat), .int .u64 (o.by_ : Nat), .slice fa fn fc] 34))
        have HR1 := Lib.hid (HRF.out (.cells #[.int .i64 o.do_, .int .i64 o.kind, .int .i64 o.i, .int .u64 (o.w : Nat), .int .u64 (o.x : Nat), .int .u64 (o.by_ : Nat), .slice fa fn fc] 34))
        have HL1 := Lib.hid (HLF.out (.cells #[.int .i64 o.do_, .int .i64 o.kind, .int .i64 o.i, .int .u64 (o.w : Nat), .int .u64 (o.x : Nat), .int .u64 (o.by_ : Nat), .slice fa fn fc] 34))
        have HFV1 := Lib.hid (HFF.out (.cells #[.int .i64 o.do_, .int .i64 o.kind, .int .i64 o.i, .int .u64 (o.w : Nat), .int .u64 (o.x : Nat), .int .u64 (o.by_ : Nat), .slice fa fn fc] 34))
        have HSZ1 := Lib.hid (show wr.heap.size ≤ (wr.alloc (.cells #[.int .i64 o.do_, .int .i64 o.kind, .int .i64 o.i, .int .u64 (o.w : Nat), .int .u64 (o.x : Nat), .int .u64 (o.by_ : Nat), .slice fa fn fc] 34)).heap.size by simp)
        clear HPF HRF HLF HFF HP HR HL HFV e0 e1 e2 e3 e4 e5 e6
        generalize wr.alloc (.cells #[.int .i64 o.do_, .int .i64 o.kind, .int .i64 o.i, .int .u64 (o.w : Nat), .int .u64 (o.x : Nat), .int .u64 (o.by_ : Nat), .slice fa fn fc] 34) = w1 at *
        (try dsimp only [List.append])
        refine wp_region_noPanic ?_
        refine wp_region_held_drew (S := (fun w' => w'.heap[g]? = some (.cells #[.int .i64 o.do_, .int .i64 o.kind, .int .i64 o.i, .int .u64 (o.w : Nat), .int .u64 (o.x : Nat), .int .u64 (o.by_ : Nat), .slice fa fn fc] 34 (0, 0)))) (by kernel_rfl) (by (try dsimp only); exact HBX.out) (fun hHeld => ?_)
        have HBd := Lib.hid (show w1.drew.heap[g]? = some (.cells #[.int .i64 o.do_, .int .i64 o.kind, .int .i64 o.i, .int .u64 (o.w : Nat), .int .u64 (o.x : Nat), .int .u64 (o.by_ : Nat), .slice fa fn fc] 34 (0, 0)) from HBX.out)
        have HPd := Lib.hid (show PhAt w1.drew N1 hb 16384 L from HP1.out.drew 1)
        have HRd := Lib.hid (show RowM w1.drew (.slice a m c) made from HR1.out.keep fun _ _ => rfl)
        have HKd := Lib.hid (show Below w.heap.size w w1.drew from HL1.out.drew)
        have HFd := Lib.hid (show WdS w1.drew okf (.slice fa fn fc) o.f from HFV1.out.mono (w := w1) (w' := w1.drew) (fun _ h => h) (fun _ _ _ => rfl))
        clear HBX HP1 HR1 HL1 HFV1
        generalize w1.drew = wd at hHeld HBd HPd HRd HKd HFd ⊢
        have HWD := Lib.hid (HRd.out.wds HML.out)
        refine' tk_any 0 59 (v := _) ?hi17 ?hd17 (by kernel_rfl) (by kernel_rfl) (by kernel_rfl) (fun _ _ _ h => h) ?hy17 hHeld ?hr17
        case hi17 => (simp only [List.getElem?_toArray, List.getElem?_cons_zero]; rfl)
        case hd17 => rfl
        case hy17 =>
          refine' Or.inl ⟨?hw17, ?hx17⟩
          case hw17 => rfl
          case hx17 => (intro w hSw; (try dsimp only at hSw); go_simp; (try with_reducible rfl))
        (try simp only [Act.put, List.setIfInBounds_toArray, List.set_cons_zero, List.set_cons_succ])
        refine' tk_any 1 60 (v := _) ?hi18 ?hd18 (by kernel_rfl) (by kernel_rfl) (by kernel_rfl) (fun _ _ _ h => h) ?hy18 hHeld ?hr18
        case hi18 => (simp only [List.getElem?_toArray, List.getElem?_cons_succ, List.getElem?_cons_zero]; rfl)
        case hd18 => rfl
        case hy18 =>
          refine' Or.inl ⟨?hw18, ?hx18⟩
          case hw18 => rfl
          case hx18 => (intro w hSw; (try dsimp only at hSw); go_simp; (try with_reducible rfl))
        (try simp only [Act.put, List.setIfInBounds_toArray, List.set_cons_zero, List.set_cons_succ])
        refine' tk_any 2 61 (v := _) ?hi19 ?hd19 (by kernel_rfl) (by kernel_rfl) (by kernel_rfl) (fun _ _ _ h => h) ?hy19 hHeld ?hr19
        case hi19 => (simp only [List.getElem?_toArray, List.getElem?_cons_succ, List.getElem?_cons_zero]; rfl)
        case hd19 => rfl
        case hy19 =>
          refine' Or.inl ⟨?hw19, ?hx19⟩
          case hw19 => rfl
          case hx19 => (intro w hSw; (try dsimp only at hSw); have y1 := Lib.cell_of_heap hSw 1; go_simp; (try with_reducible rfl))
        (try simp only [Act.put, List.setIfInBounds_toArray, List.set_cons_zero, List.set_cons_succ])
        refine' tk_any 3 62 (v := _) ?hi20 ?hd20 (by kernel_rfl) (by kernel_rfl) (by kernel_rfl) (fun _ _ _ h => h) ?hy20 hHeld ?hr20
        case hi20 => (simp only [List.getElem?_toArray, List.getElem?_cons_succ, List.getElem?_cons_zero]; rfl)
        case hd20 => rfl
        case hy20 =>
          refine' Or.inl ⟨?hw20, ?hx20⟩
          case hw20 => rfl
          case hx20 => (intro w hSw; (try dsimp only at hSw); go_simp; (try with_reducible rfl))
        (try simp only [Act.put, List.setIfInBounds_toArray, List.set_cons_zero, List.set_cons_succ])
        refine' tk_any 4 63 (v := _) ?hi21 ?hd21 (by kernel_rfl) (by kernel_rfl) (by kernel_rfl) (fun _ _ _ h => h) ?hy21 hHeld ?hr21
        case hi21 => (simp only [List.getElem?_toArray, List.getElem?_cons_succ, List.getElem?_cons_zero]; rfl)
        case hd21 => rfl
        case hy21 =>
          refine' Or.inl ⟨?hw21, ?hx21⟩
          case hw21 => rfl
          case hx21 => (intro w hSw; (try dsimp only at hSw); have y6 := Lib.cell_of_heap hSw 6; go_simp; (try with_reducible rfl))
        (try simp only [Act.put, List.setIfInBounds_toArray, List.set_cons_zero, List.set_cons_succ])
        refine' tk_any 5 64 (v := _) ?hi22 ?hd22 (by kernel_rfl) (by kernel_rfl) (by kernel_rfl) (fun _ _ _ h => h) ?hy22 hHeld ?hr22
        case hi22 => (simp only [List.getElem?_toArray, List.getElem?_cons_succ, List.getElem?_cons_zero]; rfl)
        case hd22 => rfl
        case hy22 =>
          refine' Or.inl ⟨?hw22, ?hx22⟩
          case hw22 => rfl
          case hx22 => (intro w hSw; (try dsimp only at hSw); go_simp; (try with_reducible rfl))
        (try simp only [Act.put, List.setIfInBounds_toArray, List.set_cons_zero, List.set_cons_succ])
        refine' tk_any 6 65 (v := _) ?hi23 ?hd23 (by kernel_rfl) (by kernel_rfl) (by kernel_rfl) (fun _ _ _ h => h) ?hy23 hHeld ?hr23
        case hi23 => (simp only [List.getElem?_toArray, List.getElem?_cons_succ, List.getElem?_cons_zero]; rfl)
        case hd23 => rfl
        case hy23 =>
          refine' Or.inl ⟨?hw23, ?hx23⟩
          case hw23 => rfl
          case hx23 => (intro w hSw; (try dsimp only at hSw); have y5 := Lib.cell_of_heap hSw 5; go_simp; (try with_reducible rfl))
        (try simp only [Act.put, List.setIfInBounds_toArray, List.set_cons_zero, List.set_cons_succ])
        refine' tk_any 7 66 (v := _) ?hi24 ?hd24 (by kernel_rfl) (by kernel_rfl) (by kernel_rfl) (fun _ _ _ h => h) ?hy24 hHeld ?hr24
        case hi24 => (simp only [List.getElem?_toArray, List.getElem?_cons_succ, List.getElem?_cons_zero]; rfl)
        case hd24 => rfl
        case hy24 =>
          refine' Or.inl ⟨?hw24, ?hx24⟩
          case hw24 => rfl
          case hx24 => (intro w hSw; (try dsimp only at hSw); go_simp; (try with_reducible rfl))
        (try simp only [Act.put, List.setIfInBounds_toArray, List.set_cons_zero, List.set_cons_succ])
        refine' tk_call 8 ?hi25 (by kernel_rfl) ?hr25
        case hi25 => (simp only [List.getElem?_toArray, List.getElem?_cons_succ, List.getElem?_cons_zero]; rfl)
        intro K hK
        go_simp
        go_at_call 11
        refine (words_any HFd.out HWD.out (fun k hk => Nat.lt_of_lt_of_le (HOKF.out k hk) HKd.out.size) (fun k hk => HRd.out.lt hk) o.by_ HLT.out.2.2 (by have := HFL.out; omega) HM2.out).mono ?_
        rintro e w2 ⟨r, rfl, hr2, hf2, hb2⟩
        obtain ⟨ra, rn, rc, rfl⟩ := hr2.form
        have HB2 := Lib.hid (show w2.heap[g]? = some (.cells #[.int .i64 o.do_, .int .i64 o.kind, .int .i64 o.i, .int .u64 (o.w : Nat), .int .u64 (o.x : Nat), .int .u64 (o.by_ : Nat), .slice fa fn fc] 34 (0, 0)) from (hb2.block g (Array.getElem?_eq_some_iff.1 HBd.out).1).trans HBd.out)
        have HP2 := Lib.hid (show PhAt w2 (fun k => N1 k ∨ (Value.slice ra rn rc).ownBlock = some k) hb 16384 L from HPd.out.oth hb2.size (fun k hk _ => hb2.block k hk) fun k hk => hk.elim (fun h => ⟨.inl h, Nat.lt_of_lt_of_le (HPd.out.low k h) hb2.size⟩) fun h => ⟨.inr (hf2 k h), hr2.lt h⟩)
        have HR2 := Lib.hid (show RowM w2 (.slice a m c) made from HRd.out.keep fun k hk => hb2.block k (HRd.out.lt hk))
        have HL2 := Lib.hid (show Below w.heap.size w w2 from HKd.out.trans (hb2.mono HKd.out.size))
        have HRW := Lib.hid (hr2.wds (wordsL_lt HFd.out.small HML.out))
        have HWN := Lib.hid (show (wordsL o.f o.by_ made).length ≤ 20 by rw [wordsL_len, ← HFL.out]; exact hfn)
        clear hr2 hf2 hb2
        go_wp2_with fail
        clear hHeld
        refine hK.out _ _ (by (try dsimp only); exact HB2.out) (fun hHeld => ?_)
        clear hK K
        (try simp only [Act.put, List.setIfInBounds_toArray, List.set_cons_zero, List.set_cons_succ])
        refine' tk_call 9 ?hi26 (by kernel_rfl) ?hr26
        case hi26 => (simp only [List.getElem?_toArray, List.getElem?_cons_succ, List.getElem?_cons_zero]; rfl)
        intro K hK
        go_simp
        go_at_call 12
        refine (palloc_any HP2.out o.kind HRW.out (fun k hk => .inr hk)).mono ?_
        rw [HAL.out]
        rintro e w3 ⟨rfl, hp3, hk3⟩
        have HB3 := Lib.hid (show w3.heap[g]? = some (.cells #[.int .i64 o.do_, .int .i64 o.kind, .int .i64 o.i, .int .u64 (o.w : Nat), .int .u64 (o.x : Nat), .int .u64 (o.by_ : Nat), .slice fa fn fc] 34 (0, 0)) from (hk3.block g (Array.getElem?_eq_some_iff.1 HB2.out).1 (.inl HG1.out)).trans HB2.out)
        have HP3 := Lib.hid (show PhAt w3 (NB w (.slice a m c)) hb 16384 L' from hp3.mono fun k hk => .inl (HGN.out k hk))
        have HR3 := Lib.hid (show RowM w3 (.slice a m c) made from HR2.out.keep fun k hk => hk3.block k (HR2.out.lt hk) (.inl (HG3.out k hk)))
        have HL3 := Lib.hid (show Below w.heap.size w w3 from HL2.out.trans (hk3.below (B := w.heap.size) (fun k hk => .inl (HG2.out k hk)) HL2.out.size))
        clear hp3 hk3
        go_wp2_with fail
        clear hHeld
        refine hK.out _ _ (by (try dsimp only); exact HB3.out) (fun hHeld => ?_)
        clear hK K
        (try simp only [Act.put, List.setIfInBounds_toArray, List.set_cons_zero, List.set_cons_succ])
        refine' tk_any 10 58 (v := _) ?hi27 ?hd27 (by kernel_rfl) (by kernel_rfl) (by kernel_rfl) (fun _ _ _ h => h) ?hy27 hHeld ?hr27
        case hi27 => (simp only [List.getElem?_toArray, List.getElem?_cons_succ, List.getElem?_cons_zero]; rfl)
        case hd27 => rfl
        case hy27 =>
          refine' Or.inl ⟨?hw27, ?hx27⟩
          case hw27 => rfl
          case hx27 => (intro w hSw; (try dsimp only at hSw); go_simp; (try with_reducible rfl))
        (try simp only [Act.put, List.setIfInBounds_toArray, List.set_cons_zero, List.set_cons_succ])
        refine' tk_any 11 69 (v := _) ?hi28 ?hd28 (by kernel_rfl) (by kernel_rfl) (by kernel_rfl) (fun _ _ _ h => h) ?hy28 hHeld ?hr28
        case hi28 => (simp only [List.getElem?_toArray, List.getElem?_cons_succ, List.getElem?_cons_zero]; rfl)
        case hd28 => rfl
        case hy28 =>
          refine' Or.inl ⟨?hw28, ?hx28⟩
          case hw28 => rfl
          case hx28 => (intro w hSw; (try dsimp only at hSw); go_simp; (try with_reducible rfl))
        (try simp only [Act.put, List.setIfInBounds_toArray, List.set_cons_zero, List.set_cons_succ])
        refine' tk_any 12 70 (v := _) ?hi29 ?hd29 (by kernel_rfl) (by kernel_rfl) (by kernel_rfl) (fun _ _ _ h => h) ?hy29 hHeld ?hr29
        case hi29 => (simp only [List.getElem?_toArray, List.getElem?_cons_succ, List.getElem?_cons_zero]; rfl)
        case hd29 => rfl
        case hy29 =>
          refine' Or.inl ⟨?hw29, ?hx29⟩
          case hw29 => rfl
          case hx29 => (intro w hSw; (try dsimp only at hSw); go_simp; (try with_reducible rfl))
        (try simp only [Act.put, List.setIfInBounds_toArray, List.set_cons_zero, List.set_cons_succ])
        refine' tk_any 13 10 (v := _) ?hi30 ?hd30 (by kernel_rfl) (by kernel_rfl) (by kernel_rfl) (fun _ _ _ h => h) ?hy30 hHeld ?hr30
        case hi30 => (simp only [List.getElem?_toArray, List.getElem?_cons_succ, List.getElem?_cons_zero]; rfl)
        case hd30 => rfl
        case hy30 =>
          refine' Or.inl ⟨?hw30, ?hx30⟩
          case hw30 => rfl
          case hx30 => (intro w hSw; (try dsimp only at hSw); go_simp; (try with_reducible rfl))
        (try simp only [Act.put, List.setIfInBounds_toArray, List.set_cons_zero, List.set_cons_succ])
        refine' tk_any 14 11 (v := _) ?hi31 ?hd31 (by kernel_rfl) (by kernel_rfl) (by kernel_rfl) (fun _ _ _ h => h) ?hy31 hHeld ?hr31
        case hi31 => (simp only [List.getElem?_toArray, List.getElem?_cons_succ, List.getElem?_cons_zero]; rfl)
        case hd31 => rfl
        case hy31 =>
          refine' Or.inl ⟨?hw31, ?hx31⟩
          case hw31 => rfl
          case hx31 => (intro w hSw; (try dsimp only at hSw); go_simp; (try with_reducible rfl))
        (try simp only [Act.put, List.setIfInBounds_toArray, List.set_cons_zero, List.set_cons_succ])
        refine wpAnyH_done (by kernel_rfl) ?_ _
        refine NoPanic.normal ?_
        by_cases hz : z = 0
        · subst hz
          obtain ⟨hpw, hL'⟩ := alloc_zero HAL.out
          subst hpw
          subst hL'
          go_wp2_with (at_builtin; refine wpl_appU _ rfl _ _ rfl (v := .slice a m c) (l := made) (m := [4 * (usedH L + 1)]) (HR3.out.keep (w' := w3.alloc (.cells #[.int .u64 ((4 * (usedH L + 1) : Nat) : Int)] 32)) fun j hj => Below.heap_alloc _ _ _ (HR3.out.lt hj)) rfl (ad := some ⟨w3.heap.size, 0, none⟩) (c := 1) (src_oneT (4 * (usedH L + 1)) _) rfl (by have := HM2.out; simp; omega) ?_)
          intro v5 w5 hr5 hg5 ho5 hf5
          obtain ⟨a5, n5, k5, rfl⟩ := hr5.form
          have HP5 := Lib.hid (show PhAt w5 (NB w (.slice a5 n5 k5)) hb 16384 (L ++ [⟨o.kind, wordsL o.f o.by_ made⟩]) from HP3.out.oth (Nat.le_trans (by simp) hg5.size) (fun k hk hn => (hg5.block k (by simp; omega) (fun e => hn (.inr e.symm))).trans (Below.heap_alloc _ _ _ hk)) (fun k hk => by
            rcases hk with h | h
            · exact ⟨.inl (.inl h), Nat.lt_of_lt_of_le h (Nat.le_trans HL3.out.size (Nat.le_trans (by simp) hg5.size))⟩
            · refine ⟨?_, hr5.lt h⟩
              rcases ho5 with h2 | h2
              · rw [h2] at h; exact .inl (.inr h)
              · rw [h2] at h; cases h; exact .inr (Nat.le_succ _)))
          have HR5 := Lib.hid hr5
          have HF5 := Lib.hid (show ∀ k, (Value.slice a5 n5 k5).ownBlock = some k → w.heap.size ≤ k from fun k hk => by
            rcases ho5 with h2 | h2
            · rw [h2] at hk; exact HF.out k hk
            · rw [h2] at hk; cases hk; exact Nat.le_succ_of_le HL3.out.size)
          have HL5 := Lib.hid (show Below w.heap.size w w5 from (HL3.out.alloc HL3.out.size _).grown hg5 (Nat.le_trans HL3.out.size (by simp)) HF.out)
          clear hr5 hg5 ho5 hf5
          go_wp2
          exact ⟨⟨i + 1, _, _, a5, n5, k5, by omega, by go_num, rfl, HP5, HR5, Lib.hid (HMP.out.add ⟨o.kind, wordsL o.f o.by_ made⟩ HWN.out), HF5, HL5⟩, by simp [intOf]; omega⟩
        · have hzb : ((z : Int) == 0) = false := by rw [beq_eq_false_iff_ne]; omega
          have hL' := alloc_nonzero HAL.out hz
          subst hL'
          clear hz
          go_wp2
          exact ⟨⟨i + 1, _, _, a, m, c, by omega, by go_num, rfl, HP3, HR3, Lib.hid HMP.out.up, HF, HL3⟩, by simp [intOf]; omega⟩
    · obtain rfl : i = un := by omega
      go_wp2
      go_ret3
      exact ⟨hb, a, m, c, true, L, made, rfl, HP.out, HR.out, HF.out, HL.out, fun _ => ⟨HMP.out.len, HMP.out.at_, HMP.out.fl, by have := HMP.out.cnt; omega⟩⟩
end Go.Proofs.Ytfboejdddgedcaa

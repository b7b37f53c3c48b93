import Derived.Test.YtfboejdddgedcaaHpX
import Derived.Deep.CutBlock
namespace Go.Proofs.Ytfboejdddgedcaa
open Go.RowKit

theorem src_one {w : World} {g x : Nat} {T : TypeId} (h : w.heap[g]? = some (.cells #[.int .u64 (x : Nat)] T (0, 0))) : ∀ j, j < [x].length → w.cell? ((⟨g, 0, none⟩ : Addr).add j) = some (.int .u64 ([x].getD j 0 : Nat)) := by
  intro j hj
  obtain rfl : j = 0 := by simpa using hj
  rw [addh_none]
  exact Lib.cell_of_heap h 0
theorem WdS.src {w w' : World} {ok : Nat → Prop} {a : Option Addr} {n c : Nat} {l : List Nat} (h : WdS w ok (.slice a n c) l) (hk : ∀ b, ok b → b < w.heap.size ∧ w'.heap[b]? = w.heap[b]?) : n = l.length ∧ (SrcU w' a l ∨ l = []) := by
  cases h with
  | mkNil a c => exact ⟨rfl, .inr rfl⟩
  | mkSome b off cap n l h1 h2 h3 h4 h5 =>
    refine ⟨h2, .inl (.inr ⟨_, rfl, fun j hj => ?_⟩)⟩
    have e : (⟨b, off, none⟩ : Addr).add j = ⟨b, off + j, none⟩ := by unfold Addr.add; split <;> simp_all
    rw [e, World.cell?_of_block (w := w) (a := ⟨b, off + j, none⟩) (hk b h1).2]
    exact h4 j hj
theorem SrcU.nil (w : World) (a : Option Addr) : SrcU w a [] := by
  cases a with
  | none => exact .inl ⟨rfl, rfl⟩
  | some a => exact .inr ⟨a, rfl, fun j hj => absurd hj (Nat.not_lt_zero _)⟩

theorem RowM.form {w : World} {v : Value} {l : List Nat} (h : RowM w v l) : ∃ a n c, v = .slice a n c := by
  obtain ⟨a, c, e, _⟩ := h.val
  exact ⟨a, _, c, e⟩
theorem wrap_i64_nat (q : Nat) (h : q ≤ 4000000000) : IntKind.i64.wrap (q : Int) = (q : Int) := by
  unfold IntKind.wrap
  simp [IntKind.signed, IntKind.bits]
  omega
theorem pad_lt {S : List Nat} (h : ∀ j, S.getD j 0 < 18446744073709551616) (k j : Nat) : (S ++ List.replicate k 0).getD j 0 < 18446744073709551616 := by
  by_cases e : j < S.length
  · rw [getD_app_lt e]; exact h j
  · rw [getD_app_ge (by omega), List.getD_eq_getElem?_getD, List.getElem?_replicate]
    split <;> simp
def lenC : Option Value → Nat
  | some (.slice _ n _) => n
  | _ => 0
set_option maxRecDepth 100000 in
set_option maxHeartbeats 8000000 in
/-- an object put behind the others of a space -/
theorem padd_any {w : World} {hb f : Nat} {cur : Array Value} {T : TypeId} {vw vs : Value} {W S fs : List Nat} {ok : Nat → Prop} {u : Value} (A : AdM w w hb f cur T vw vs vw vs W S) (kd : Nat) (hkd : kd < 256)
    (hF : WdS w ok u fs) (hok : ∀ b, ok b → b < w.heap.size ∧ KpA hb vw vs b) (hsz : W.length + 1 + fs.length ≤ 1048576) (hS : S.length ≤ 16385) (hSlt : ∀ j, S.getD j 0 < 18446744073709551616) :
    Calls Try.prog 41 #[.pointer (some ⟨hb, f, none⟩), .int .i64 kd, u] w fun e w' => e = .returned (.int .i64 W.length) ∧ ∃ vw' vs', AdM w w' hb f cur T vw vs vw' vs' (W ++ (fs.length * 256 + kd) :: fs) (addS S W.length) ∧
      ∀ g c0, vw = .slice (some ⟨g, 0, none⟩) W.length c0 → W.length + 1 + fs.length ≤ c0 → vw' = .slice (some ⟨g, 0, none⟩) (W.length + 1 + fs.length) c0 := by
  obtain ⟨a, c, rfl, hwc, hcm⟩ := A.r1.val
  obtain ⟨ua, uc, rfl⟩ := hF.val
  have HSRC := Lib.hid (fun (w' : World) (hk : Ked (KpA hb (.slice a W.length c) vs) w w') => show SrcU w' ua fs by
    rcases (hF.src (w' := w') fun b hb => ⟨(hok b hb).1, hk.block b (hok b hb).1 (hok b hb).2⟩).2 with h | h
    · exact h
    · rw [h]; exact SrcU.nil _ _)
  have HH := Lib.hid (phead_any kd fs.length hkd (by omega))
  obtain ⟨x, hx⟩ : ∃ x, x = fs.length * 256 + kd := ⟨_, rfl⟩
  rw [← hx] at HH ⊢
  clear hx
  have c0 := A.c0
  have HA := Lib.hid A
  obtain ⟨n, hn⟩ : ∃ n, n = W.length := ⟨_, rfl⟩
  rw [← hn] at hsz hwc c0 HA HSRC ⊢
  have HNW := Lib.hid hn
  have HSL := Lib.hid (pad_lt hSlt)
  clear A hF hok hkd hn hcm
  go_enter Try.func41, Try.ntmps41
  go_wp2
  go_cut [] from 13 to 26 (fun wx => ∃ v1 : Value, Hid (AdM w wx hb f cur T (.slice a n c) vs v1 vs (W ++ [x]) S) ∧ Hid (∀ g c0, (.slice a n c : Value) = .slice (some ⟨g, 0, none⟩) W.length c0 → W.length + 1 ≤ c0 → v1 = .slice (some ⟨g, 0, none⟩) (W.length + 1) c0))
  case first =>
    (try dsimp only [List.append])
    refine wp_region_noPanic ?_
    refine wp_region_held_drew (S := (fun _ => True)) (by kernel_rfl) (by (try dsimp only); try exact trivial) (fun hHeld => ?_)
    have HAD := Lib.hid (show AdM w w.drew hb f cur T (.slice a n c) vs (.slice a n c) vs W S from HA.out.drew 1)
    have cd : w.drew.cell? ⟨hb, f, none⟩ = some (.slice a n c) := c0
    clear c0
    generalize w.drew = wd at hHeld HAD cd ⊢
    refine' tk_any 0 13 (v := _) ?hi1 ?hd1 (by kernel_rfl) (by kernel_rfl) (by kernel_rfl) (fun _ _ _ h => h) ?hy1 hHeld ?hr1
    case hi1 => (simp only [List.getElem?_toArray, List.getElem?_cons_zero]; rfl)
    case hd1 => rfl
    case hy1 =>
      refine' Or.inl ⟨?hw1, ?hx1⟩
      case hw1 => rfl
      case hx1 => (intro w hSw; (try dsimp only at hSw); go_simp; (try with_reducible rfl))
    (try simp only [Act.put, List.setIfInBounds_toArray, List.set_cons_zero, List.set_cons_succ])
    refine' tk_any 1 14 (v := _) ?hi2 ?hd2 (by kernel_rfl) (by kernel_rfl) (by kernel_rfl) (fun _ _ _ h => h) ?hy2 hHeld ?hr2
    case hi2 => (simp only [List.getElem?_toArray, List.getElem?_cons_succ, List.getElem?_cons_zero]; rfl)
    case hd2 => rfl
    case hy2 =>
      refine' Or.inl ⟨?hw2, ?hx2⟩
      case hw2 => rfl
      case hx2 => (intro w hSw; (try dsimp only at hSw); go_simp; (try with_reducible rfl))
    (try simp only [Act.put, List.setIfInBounds_toArray, List.set_cons_zero, List.set_cons_succ])
    refine' tk_any 2 15 (v := _) ?hi3 ?hd3 (by kernel_rfl) (by kernel_rfl) (by kernel_rfl) (fun _ _ _ h => h) ?hy3 hHeld ?hr3
    case hi3 => (simp only [List.getElem?_toArray, List.getElem?_cons_succ, List.getElem?_cons_zero]; rfl)
    case hd3 => rfl
    case hy3 =>
      refine' Or.inl ⟨?hw3, ?hx3⟩
      case hw3 => rfl
      case hx3 => (intro w hSw; (try dsimp only at hSw); go_simp; (try with_reducible rfl))
    (try simp only [Act.put, List.setIfInBounds_toArray, List.set_cons_zero, List.set_cons_succ])
    refine' tk_any 3 16 (v := _) ?hi4 ?hd4 (by kernel_rfl) (by kernel_rfl) (by kernel_rfl) (fun _ _ _ h => h) ?hy4 hHeld ?hr4
    case hi4 => (simp only [List.getElem?_toArray, List.getElem?_cons_succ, List.getElem?_cons_zero]; rfl)
    case hd4 => rfl
    case hy4 =>
      refine' Or.inl ⟨?hw4, ?hx4⟩
      case hw4 => rfl
      case hx4 => (intro w hSw; (try dsimp only at hSw); go_simp; (try with_reducible rfl))
    (try simp only [Act.put, List.setIfInBounds_toArray, List.set_cons_zero, List.set_cons_succ])
    refine' tk_any 5 18 (v := _) ?hi5 ?hd5 (by kernel_rfl) (by kernel_rfl) (by kernel_rfl) (fun _ _ _ h => h) ?hy5 hHeld ?hr5
    case hi5 => (simp only [List.getElem?_toArray, List.getElem?_cons_succ, List.getElem?_cons_zero]; rfl)
    case hd5 => rfl
    case hy5 =>
      refine' Or.inl ⟨?hw5, ?hx5⟩
      case hw5 => rfl
      case hx5 => (intro w hSw; (try dsimp only at hSw); go_simp; (try with_reducible rfl))
    (try simp only [Act.put, List.setIfInBounds_toArray, List.set_cons_zero, List.set_cons_succ])
    refine' tk_any 6 19 (v := _) ?hi6 ?hd6 (by kernel_rfl) (by kernel_rfl) (by kernel_rfl) (fun _ _ _ h => h) ?hy6 hHeld ?hr6
    case hi6 => (simp only [List.getElem?_toArray, List.getElem?_cons_succ, List.getElem?_cons_zero]; rfl)
    case hd6 => rfl
    case hy6 =>
      refine' Or.inl ⟨?hw6, ?hx6⟩
      case hw6 => rfl
      case hx6 => (intro w hSw; (try dsimp only at hSw); go_simp; (try with_reducible rfl))
    (try simp only [Act.put, List.setIfInBounds_toArray, List.set_cons_zero, List.set_cons_succ])
    refine' tk_any 7 20 (v := _) ?hi7 ?hd7 (by kernel_rfl) (by kernel_rfl) (by kernel_rfl) (fun _ _ _ h => h) ?hy7 hHeld ?hr7
    case hi7 => (simp only [List.getElem?_toArray, List.getElem?_cons_succ, List.getElem?_cons_zero]; rfl)
    case hd7 => rfl
    case hy7 =>
      refine' Or.inl ⟨?hw7, ?hx7⟩
      case hw7 => rfl
      case hx7 => (intro w hSw; (try dsimp only at hSw); go_simp; (try with_reducible rfl))
    (try simp only [Act.put, List.setIfInBounds_toArray, List.set_cons_zero, List.set_cons_succ])
    refine' tk_two 4 8 ?hi25 ?hj25 (by kernel_rfl) ?ha25 ?hb25
    case hi25 => (simp only [List.getElem?_toArray, List.getElem?_cons_succ, List.getElem?_cons_zero]; rfl)
    case hj25 => (simp only [List.getElem?_toArray, List.getElem?_cons_succ, List.getElem?_cons_zero]; rfl)
    case ha25 =>
      intro K hK
      go_simp
      clear hHeld
      refine hK.out _ _ (by (try dsimp only); try exact trivial) (fun hHeld => ?_)
      clear hK K
      (try simp only [Act.put, List.setIfInBounds_toArray, List.set_cons_zero, List.set_cons_succ])
      refine' tk_call 8 ?hi8 (by kernel_rfl) ?hr8
      case hi8 => (simp only [List.getElem?_toArray, List.getElem?_cons_succ, List.getElem?_cons_zero]; rfl)
      intro K hK
      go_simp
      go_at_call 51
      refine (HH.out _).mono ?_
      rintro e w2 ⟨rfl, rfl⟩
      go_wp2_with fail
      clear hHeld
      refine hK.out _ _ (by (try dsimp only); try exact trivial) (fun hHeld => ?_)
      clear hK K
      (try simp only [Act.put, List.setIfInBounds_toArray, List.set_cons_zero, List.set_cons_succ])
      refine' tk_call 9 ?hi9 (by kernel_rfl) ?hr9
      case hi9 => (simp only [List.getElem?_toArray, List.getElem?_cons_succ, List.getElem?_cons_zero]; rfl)
      intro K hK
      go_simp
      have hA := Lib.hid (HAD.out.alloc (.cells #[.int .u64 (x : Nat)] 32))
      have hN := Lib.hid (show (wd.alloc (.cells #[.int .u64 (x : Nat)] 32)).heap[wd.heap.size]? = some (.cells #[.int .u64 (x : Nat)] 32 (0, 0)) from heap_alloc_new _ _)
      generalize wd.alloc (.cells #[.int .u64 (x : Nat)] 32) = wA at hA hN ⊢
      have cA : wA.cell? ⟨hb, f, none⟩ = some (.slice a n c) := hA.out.c0
      clear hHeld
      refine hK.out _ _ (by (try dsimp only); try exact trivial) (fun hHeld => ?_)
      clear hK K
      (try simp only [Act.put, List.setIfInBounds_toArray, List.set_cons_zero, List.set_cons_succ])
      refine' tk_call 10 ?hi10 (by kernel_rfl) ?hr10
      case hi10 => (simp only [List.getElem?_toArray, List.getElem?_cons_succ, List.getElem?_cons_zero]; rfl)
      intro K hK
      refine step_appU _ (by rfl) (.tmp 17) (.tmp 22) (by rfl) (v := .slice a n c) (l := W) (m := [x]) hA.out.r1 (by rfl) (ad := some ⟨wd.heap.size, 0, none⟩) (c := 1) (.inr ⟨_, rfl, src_one hN.out⟩) (by rfl) (by rw [← HNW.out]; simp; omega) ?_
      intro v1 w1 hr1 hg1 ho1 hf1
      obtain ⟨a1, n1, c1, rfl⟩ := hr1.form
      have hc1 : w1.cell? ⟨hb, f, none⟩ = some (.slice a n c) := (World.cell?_of_block (w := wA) (hg1.block hb hA.out.lt (fun e => hA.out.n1 e.symm))).trans cA
      have hfz : w1.frozen? ⟨hb, f, none⟩ = false := (World.frozen?_of_block (w := wA) (hg1.block hb hA.out.lt (fun e => hA.out.n1 e.symm))).trans (hA.out.fr f)
      have HR1 := Lib.hid (hA.out.app1 hr1 hg1 ho1)
      have HF1 := Lib.hid hf1
      clear hr1 hg1 ho1 hf1 cA
      clear hHeld
      refine hK.out _ _ (by (try dsimp only); try exact trivial) (fun hHeld => ?_)
      clear hK K
      (try simp only [Act.put, List.setIfInBounds_toArray, List.set_cons_zero, List.set_cons_succ])
      refine' tk_any 11 24 (v := _) ?hi11 ?hd11 (by kernel_rfl) (by kernel_rfl) (by kernel_rfl) (fun _ _ _ h => h) ?hy11 hHeld ?hr11
      case hi11 => (simp only [List.getElem?_toArray, List.getElem?_cons_succ, List.getElem?_cons_zero]; rfl)
      case hd11 => rfl
      case hy11 =>
        refine' Or.inl ⟨?hw11, ?hx11⟩
        case hw11 => rfl
        case hx11 => (intro w hSw; (try dsimp only at hSw); go_simp; (try with_reducible rfl))
      (try simp only [Act.put, List.setIfInBounds_toArray, List.set_cons_zero, List.set_cons_succ])
      refine' tk_any 12 25 (v := _) ?hi12 ?hd12 (by kernel_rfl) (by kernel_rfl) (by kernel_rfl) (fun _ _ _ h => h) ?hy12 hHeld ?hr12
      case hi12 => (simp only [List.getElem?_toArray, List.getElem?_cons_succ, List.getElem?_cons_zero]; rfl)
      case hd12 => rfl
      case hy12 =>
        refine' Or.inl ⟨?hw12, ?hx12⟩
        case hw12 => rfl
        case hx12 => (intro w hSw; (try dsimp only at hSw); go_simp; (try with_reducible rfl))
      (try simp only [Act.put, List.setIfInBounds_toArray, List.set_cons_zero, List.set_cons_succ])
      refine' tk_call 13 ?hi13 (by kernel_rfl) ?hr13
      case hi13 => (simp only [List.getElem?_toArray, List.getElem?_cons_succ, List.getElem?_cons_zero]; rfl)
      intro K hK
      go_simp
      clear hHeld
      refine hK.out _ _ (by (try dsimp only); try exact trivial) (fun hHeld => ?_)
      clear hK K
      (try simp only [Act.put, List.setIfInBounds_toArray, List.set_cons_zero, List.set_cons_succ])
      refine wpAnyH_done (by kernel_rfl) ?_ _
      refine NoPanic.normal ?_
      (try go_wp2)
      go_meet
      case rel => exact ⟨_, Lib.hid HR1.out, HF1⟩
    case hb25 =>
      intro K hK
      go_simp
      go_at_call 51
      refine (HH.out _).mono ?_
      rintro e w2 ⟨rfl, rfl⟩
      go_wp2_with fail
      clear hHeld
      refine hK.out _ _ (by (try dsimp only); try exact trivial) (fun hHeld => ?_)
      clear hK K
      (try simp only [Act.put, List.setIfInBounds_toArray, List.set_cons_zero, List.set_cons_succ])
      refine' tk_two 4 9 ?hi24 ?hj24 (by kernel_rfl) ?ha24 ?hb24
      case hi24 => (simp only [List.getElem?_toArray, List.getElem?_cons_succ, List.getElem?_cons_zero]; rfl)
      case hj24 => (simp only [List.getElem?_toArray, List.getElem?_cons_succ, List.getElem?_cons_zero]; rfl)
      case ha24 =>
        intro K hK
        go_simp
        clear hHeld
        refine hK.out _ _ (by (try dsimp only); try exact trivial) (fun hHeld => ?_)
        clear hK K
        (try simp only [Act.put, List.setIfInBounds_toArray, List.set_cons_zero, List.set_cons_succ])
        refine' tk_call 9 ?hi14 (by kernel_rfl) ?hr14
        case hi14 => (simp only [List.getElem?_toArray, List.getElem?_cons_succ, List.getElem?_cons_zero]; rfl)
        intro K hK
        go_simp
        have hA := Lib.hid (HAD.out.alloc (.cells #[.int .u64 (x : Nat)] 32))
        have hN := Lib.hid (show (wd.alloc (.cells #[.int .u64 (x : Nat)] 32)).heap[wd.heap.size]? = some (.cells #[.int .u64 (x : Nat)] 32 (0, 0)) from heap_alloc_new _ _)
        generalize wd.alloc (.cells #[.int .u64 (x : Nat)] 32) = wA at hA hN ⊢
        have cA : wA.cell? ⟨hb, f, none⟩ = some (.slice a n c) := hA.out.c0
        clear hHeld
        refine hK.out _ _ (by (try dsimp only); try exact trivial) (fun hHeld => ?_)
        clear hK K
        (try simp only [Act.put, List.setIfInBounds_toArray, List.set_cons_zero, List.set_cons_succ])
        refine' tk_call 10 ?hi15 (by kernel_rfl) ?hr15
        case hi15 => (simp only [List.getElem?_toArray, List.getElem?_cons_succ, List.getElem?_cons_zero]; rfl)
        intro K hK
        refine step_appU _ (by rfl) (.tmp 17) (.tmp 22) (by rfl) (v := .slice a n c) (l := W) (m := [x]) hA.out.r1 (by rfl) (ad := some ⟨wd.heap.size, 0, none⟩) (c := 1) (.inr ⟨_, rfl, src_one hN.out⟩) (by rfl) (by rw [← HNW.out]; simp; omega) ?_
        intro v1 w1 hr1 hg1 ho1 hf1
        obtain ⟨a1, n1, c1, rfl⟩ := hr1.form
        have hc1 : w1.cell? ⟨hb, f, none⟩ = some (.slice a n c) := (World.cell?_of_block (w := wA) (hg1.block hb hA.out.lt (fun e => hA.out.n1 e.symm))).trans cA
        have hfz : w1.frozen? ⟨hb, f, none⟩ = false := (World.frozen?_of_block (w := wA) (hg1.block hb hA.out.lt (fun e => hA.out.n1 e.symm))).trans (hA.out.fr f)
        have HR1 := Lib.hid (hA.out.app1 hr1 hg1 ho1)
        have HF1 := Lib.hid hf1
        clear hr1 hg1 ho1 hf1 cA
        clear hHeld
        refine hK.out _ _ (by (try dsimp only); try exact trivial) (fun hHeld => ?_)
        clear hK K
        (try simp only [Act.put, List.setIfInBounds_toArray, List.set_cons_zero, List.set_cons_succ])
        refine' tk_any 11 24 (v := _) ?hi16 ?hd16 (by kernel_rfl) (by kernel_rfl) (by kernel_rfl) (fun _ _ _ h => h) ?hy16 hHeld ?hr16
        case hi16 => (simp only [List.getElem?_toArray, List.getElem?_cons_succ, List.getElem?_cons_zero]; rfl)
        case hd16 => rfl
        case hy16 =>
          refine' Or.inl ⟨?hw16, ?hx16⟩
          case hw16 => rfl
          case hx16 => (intro w hSw; (try dsimp only at hSw); go_simp; (try with_reducible rfl))
        (try simp only [Act.put, List.setIfInBounds_toArray, List.set_cons_zero, List.set_cons_succ])
        refine' tk_any 12 25 (v := _) ?hi17 ?hd17 (by kernel_rfl) (by kernel_rfl) (by kernel_rfl) (fun _ _ _ h => h) ?hy17 hHeld ?hr17
        case hi17 => (simp only [List.getElem?_toArray, List.getElem?_cons_succ, List.getElem?_cons_zero]; rfl)
        case hd17 => rfl
        case hy17 =>
          refine' Or.inl ⟨?hw17, ?hx17⟩
          case hw17 => rfl
          case hx17 => (intro w hSw; (try dsimp only at hSw); go_simp; (try with_reducible rfl))
        (try simp only [Act.put, List.setIfInBounds_toArray, List.set_cons_zero, List.set_cons_succ])
        refine' tk_call 13 ?hi18 (by kernel_rfl) ?hr18
        case hi18 => (simp only [List.getElem?_toArray, List.getElem?_cons_succ, List.getElem?_cons_zero]; rfl)
        intro K hK
        go_simp
        clear hHeld
        refine hK.out _ _ (by (try dsimp only); try exact trivial) (fun hHeld => ?_)
        clear hK K
        (try simp only [Act.put, List.setIfInBounds_toArray, List.set_cons_zero, List.set_cons_succ])
        refine wpAnyH_done (by kernel_rfl) ?_ _
        refine NoPanic.normal ?_
        (try go_wp2)
        go_meet
        case rel => exact ⟨_, Lib.hid HR1.out, HF1⟩
      case hb24 =>
        intro K hK
        go_simp
        have hA := Lib.hid (HAD.out.alloc (.cells #[.int .u64 (x : Nat)] 32))
        have hN := Lib.hid (show (wd.alloc (.cells #[.int .u64 (x : Nat)] 32)).heap[wd.heap.size]? = some (.cells #[.int .u64 (x : Nat)] 32 (0, 0)) from heap_alloc_new _ _)
        generalize wd.alloc (.cells #[.int .u64 (x : Nat)] 32) = wA at hA hN ⊢
        have cA : wA.cell? ⟨hb, f, none⟩ = some (.slice a n c) := hA.out.c0
        clear hHeld
        refine hK.out _ _ (by (try dsimp only); try exact trivial) (fun hHeld => ?_)
        clear hK K
        (try simp only [Act.put, List.setIfInBounds_toArray, List.set_cons_zero, List.set_cons_succ])
        refine' tk_call 4 ?hi19 (by kernel_rfl) ?hr19
        case hi19 => (simp only [List.getElem?_toArray, List.getElem?_cons_succ, List.getElem?_cons_zero]; rfl)
        intro K hK
        go_simp
        clear hHeld
        refine hK.out _ _ (by (try dsimp only); try exact trivial) (fun hHeld => ?_)
        clear hK K
        (try simp only [Act.put, List.setIfInBounds_toArray, List.set_cons_zero, List.set_cons_succ])
        refine' tk_call 10 ?hi20 (by kernel_rfl) ?hr20
        case hi20 => (simp only [List.getElem?_toArray, List.getElem?_cons_succ, List.getElem?_cons_zero]; rfl)
        intro K hK
        refine step_appU _ (by rfl) (.tmp 17) (.tmp 22) (by rfl) (v := .slice a n c) (l := W) (m := [x]) hA.out.r1 (by rfl) (ad := some ⟨wd.heap.size, 0, none⟩) (c := 1) (.inr ⟨_, rfl, src_one hN.out⟩) (by rfl) (by rw [← HNW.out]; simp; omega) ?_
        intro v1 w1 hr1 hg1 ho1 hf1
        obtain ⟨a1, n1, c1, rfl⟩ := hr1.form
        have hc1 : w1.cell? ⟨hb, f, none⟩ = some (.slice a n c) := (World.cell?_of_block (w := wA) (hg1.block hb hA.out.lt (fun e => hA.out.n1 e.symm))).trans cA
        have hfz : w1.frozen? ⟨hb, f, none⟩ = false := (World.frozen?_of_block (w := wA) (hg1.block hb hA.out.lt (fun e => hA.out.n1 e.symm))).trans (hA.out.fr f)
        have HR1 := Lib.hid (hA.out.app1 hr1 hg1 ho1)
        have HF1 := Lib.hid hf1
        clear hr1 hg1 ho1 hf1 cA
        clear hHeld
        refine hK.out _ _ (by (try dsimp only); try exact trivial) (fun hHeld => ?_)
        clear hK K
        (try simp only [Act.put, List.setIfInBounds_toArray, List.set_cons_zero, List.set_cons_succ])
        refine' tk_any 11 24 (v := _) ?hi21 ?hd21 (by kernel_rfl) (by kernel_rfl) (by kernel_rfl) (fun _ _ _ h => h) ?hy21 hHeld ?hr21
        case hi21 => (simp only [List.getElem?_toArray, List.getElem?_cons_succ, List.getElem?_cons_zero]; rfl)
        case hd21 => rfl
        case hy21 =>
          refine' Or.inl ⟨?hw21, ?hx21⟩
          case hw21 => rfl
          case hx21 => (intro w hSw; (try dsimp only at hSw); go_simp; (try with_reducible rfl))
        (try simp only [Act.put, List.setIfInBounds_toArray, List.set_cons_zero, List.set_cons_succ])
        refine' tk_any 12 25 (v := _) ?hi22 ?hd22 (by kernel_rfl) (by kernel_rfl) (by kernel_rfl) (fun _ _ _ h => h) ?hy22 hHeld ?hr22
        case hi22 => (simp only [List.getElem?_toArray, List.getElem?_cons_succ, List.getElem?_cons_zero]; rfl)
        case hd22 => rfl
        case hy22 =>
          refine' Or.inl ⟨?hw22, ?hx22⟩
          case hw22 => rfl
          case hx22 => (intro w hSw; (try dsimp only at hSw); go_simp; (try with_reducible rfl))
        (try simp only [Act.put, List.setIfInBounds_toArray, List.set_cons_zero, List.set_cons_succ])
        refine' tk_call 13 ?hi23 (by kernel_rfl) ?hr23
        case hi23 => (simp only [List.getElem?_toArray, List.getElem?_cons_succ, List.getElem?_cons_zero]; rfl)
        intro K hK
        go_simp
        clear hHeld
        refine hK.out _ _ (by (try dsimp only); try exact trivial) (fun hHeld => ?_)
        clear hK K
        (try simp only [Act.put, List.setIfInBounds_toArray, List.set_cons_zero, List.set_cons_succ])
        refine wpAnyH_done (by kernel_rfl) ?_ _
        refine NoPanic.normal ?_
        (try go_wp2)
        go_meet
        case rel => exact ⟨_, Lib.hid HR1.out, HF1⟩
  case rest =>
    obtain ⟨v1, HA1, HF1⟩ := hcut
    have c0 := HA1.out.c0
    have hf0 := HA1.out.fr f
    obtain ⟨a1, n1, k1, rfl⟩ := HA1.out.r1.form
    have HS2 := Lib.hid (HSRC.out wc HA1.out.ked)
    clear HSRC
    go_wp2_with (at_builtin; refine wpl_appU _ rfl _ _ rfl (v := .slice a1 n1 k1) (l := W ++ [x]) (m := fs) HA1.out.r1 rfl (ad := ua) (c := uc) HS2.out rfl (by rw [List.length_append, ← HNW.out]; simp; omega) ?_)
    intro v2 w2 hr2 hg2 ho2 hf2
    obtain ⟨a2, n2, k2, rfl⟩ := hr2.form
    have hc2 : w2.cell? ⟨hb, f, none⟩ = some (.slice a1 n1 k1) := (World.cell?_of_block (w := wc) (hg2.block hb HA1.out.lt (fun e => HA1.out.n1 e.symm))).trans c0
    have hz2 : w2.frozen? ⟨hb, f, none⟩ = false := (World.frozen?_of_block (w := wc) (hg2.block hb HA1.out.lt (fun e => HA1.out.n1 e.symm))).trans hf0
    have HA2 := Lib.hid (HA1.out.app1 hr2 hg2 ho2)
    have HF2 := Lib.hid (show ∀ g c0, (.slice a n c : Value) = .slice (some ⟨g, 0, none⟩) W.length c0 → W.length + 1 + fs.length ≤ c0 → (.slice a2 n2 k2 : Value) = .slice (some ⟨g, 0, none⟩) (W.length + 1 + fs.length) c0 by
      intro g c0 e1 e2
      have h1 := HF1.out g c0 e1 (by omega)
      obtain ⟨e3, e4, rfl⟩ : a1 = some ⟨g, 0, none⟩ ∧ n1 = W.length + 1 ∧ k1 = c0 := by simpa using h1
      exact hf2 g e3 e4 e2)
    clear hr2 hg2 ho2 hf2 c0 hf0 HA1 HF1 HS2
    obtain ⟨q, hq⟩ : ∃ q, q = n / 64 := ⟨_, rfl⟩
    have eq : (n : Int) / 64 = (q : Int) := by omega
    have hqs : q ≤ 16384 := by omega
    have HQ := Lib.hid hq
    clear hq
    go_wp2
    go_loopw [] (fun wr => ∃ (k : Nat) (vs1 : Value) (M : List Nat), (k = 0 ∨ S.length + k ≤ q + 1) ∧ Hid (M = S ++ List.replicate k 0) ∧ Hid (AdM w wr hb f cur T (.slice a n c) vs (.slice a2 n2 k2) vs1 (W ++ x :: fs) M)) (fun wr => q + 1 - lenC (wr.cell? ⟨hb, f + 1, none⟩))
    case atStart => exact ⟨0, vs, S, .inl rfl, Lib.hid (by simp), HA2⟩
    case round =>
      obtain ⟨k, vs1, M, hk, HM, HAR⟩ := hrel
      obtain ⟨sa, sc, rfl, hl1, hl2⟩ := HAR.out.r2.val
      have hlen : M.length = S.length + k := by rw [HM.out]; simp
      obtain ⟨s, hs⟩ : ∃ s, s = M.length := ⟨_, rfl⟩
      rw [← hs] at hl1 hlen HAR
      have hs63 : s ≤ 100000 := by omega
      have c1 := HAR.out.c1
      have hf1 := HAR.out.fr (f + 1)
      have HK := Lib.hid hk
      have HS := Lib.hid hs
      have HLEN := Lib.hid hlen
      clear hk hs hlen
      by_cases hle : s ≤ q
      · go_wp2_with (at_builtin; refine wpl_appU _ rfl _ _ rfl (v := .slice sa s sc) (l := M) (m := [0]) (HAR.out.alloc (.cells #[.int .u64 0] 32)).r2 rfl (ad := some ⟨wr.heap.size, 0, none⟩) (c := 1) (.inr ⟨_, rfl, src_one (x := 0) (heap_alloc_new _ _)⟩) rfl (by rw [← HS.out]; simp; omega) ?_)
        intro v3 w3 hr3 hg3 ho3 hf3
        obtain ⟨a3, n3, k3, rfl⟩ := hr3.form
        have HA3 := Lib.hid ((HAR.out.alloc (.cells #[.int .u64 0] 32)).app2 hr3 hg3 (by simpa using ho3))
        have hc3 : w3.cell? ⟨hb, f + 1, none⟩ = some (.slice sa s sc) := (World.cell?_of_block (hg3.block hb (HAR.out.alloc _).lt (fun e => HAR.out.n2 e.symm))).trans (HAR.out.alloc _).c1
        have hz3 : w3.frozen? ⟨hb, f + 1, none⟩ = false := (World.frozen?_of_block (hg3.block hb (HAR.out.alloc _).lt (fun e => HAR.out.n2 e.symm))).trans ((HAR.out.alloc _).fr (f + 1))
        have hn3 : n3 = s + 1 := by
          obtain ⟨_, _, e, _⟩ := hr3.val
          cases e
          rw [List.length_append, ← HS.out]; rfl
        clear hr3 hg3 ho3 hf3
        subst hn3
        go_wp2
        have hm : (w3.setCell ⟨hb, f + 1, none⟩ (.slice a3 (s + 1) k3)).cell? ⟨hb, f + 1, none⟩ = some (.slice a3 (s + 1) k3) := HA3.out.c1
        refine ⟨⟨k + 1, _, M ++ [0], .inr (by have := HLEN.out; omega), Lib.hid (by rw [HM.out, List.append_assoc, List.replicate_succ']), HA3⟩, ?_⟩
        rw [hm, c1]
        show q + 1 - (s + 1) < q + 1 - s
        omega
      · have hqs2 : q < s := by omega
        have hpad : padS S n = M := by
          unfold padS
          rw [HM.out, ← HQ.out]
          congr 2
          have h1 := HLEN.out
          rcases HK.out with h2 | h2
          · subst h2; omega
          · omega
        obtain ⟨gs, sc', hv, ey, fy', _⟩ := HAR.out.r2.elem (j := q) (by rw [← HS.out]; exact hqs2)
        rw [← HS.out] at hv
        cases hv
        have fy := fy' q
        obtain ⟨y, hy⟩ : ∃ y, y = M.getD q 0 := ⟨_, rfl⟩
        rw [← hy] at ey
        obtain ⟨r, hr⟩ : ∃ r, r = n % 64 := ⟨_, rfl⟩
        have er : (n : Int) % 64 = (r : Int) := by omega
        have ert : (n : Int).tmod 64 = (r : Int) := by rw [Int.tmod_eq_emod_of_nonneg (by omega)]; exact er
        have hr64 : r < 64 := by omega
        obtain ⟨b, hb2⟩ : ∃ b, b = 1 <<< r := ⟨_, rfl⟩
        have hblt : b < 18446744073709551616 := by rw [hb2]; exact bit_lt r hr64
        have hylt : y < 18446744073709551616 := by rw [hy, HM.out]; exact HSL.out k q
        have hwb : IntKind.u64.wrap ((2 : Int) ^ r) = (b : Nat) := by
          rw [IntKind.wrap_u64]
          have e1 : (2 : Int) ^ r = ((b : Nat) : Int) := by rw [hb2, Nat.one_shiftLeft]; simp
          rw [e1]
          omega
        have hor := bits_or_u64_nat y b hylt hblt
        rw [← hwb] at hor
        clear hwb
        obtain ⟨z, hz⟩ : ∃ z, z = y ||| b := ⟨_, rfl⟩
        rw [← hz] at hor
        have HFIN := Lib.hid (show addS S n = M.set q z by unfold addS; rw [hpad, ← HQ.out, ← hr, ← hb2, ← hy, ← hz])
        have HQL := Lib.hid (show q < M.length by rw [← HS.out]; exact hqs2)
        have hwq : IntKind.i64.wrap (q : Int) = (q : Int) := wrap_i64_nat q (by omega)
        clear hpad hy hr hb2 hblt hylt hz fy' hle HM HLEN HK hf1
        go_upto_region 6 with fail
        (try dsimp only [List.append])
        refine wp_region_noPanic ?_
        refine wp_region_held_drew (S := (fun w' => w'.cell? ⟨hb, f + 1, none⟩ = some (.slice (some ⟨gs, 0, none⟩) s sc))) (by kernel_rfl) (by (try dsimp only); exact (HAR.out.drew 1).c1) (fun hHeld => ?_)
        have HBD := Lib.hid (show AdM w wr.drew hb f cur T _ _ _ _ _ _ from HAR.out.drew 1)
        have ed : wr.drew.cell? ⟨gs, q, none⟩ = some (.int .u64 (y : Nat)) := ey
        have fd : wr.drew.frozen? ⟨gs, q, none⟩ = false := fy
        clear ey fy
        generalize wr.drew = wd at hHeld HBD ed fd ⊢
        refine' tk_any 0 52 (v := _) ?hi26 ?hd26 (by kernel_rfl) (by kernel_rfl) (by kernel_rfl) (fun _ _ _ h => h) ?hy26 hHeld ?hr26
        case hi26 => (simp only [List.getElem?_toArray, List.getElem?_cons_zero]; rfl)
        case hd26 => rfl
        case hy26 =>
          refine' Or.inl ⟨?hw26, ?hx26⟩
          case hw26 => rfl
          case hx26 => (intro w hSw; (try dsimp only at hSw); go_simp; (try with_reducible rfl))
        (try simp only [Act.put, List.setIfInBounds_toArray, List.set_cons_zero, List.set_cons_succ])
        refine' tk_any 1 53 (v := _) ?hi27 ?hd27 (by kernel_rfl) (by kernel_rfl) (by kernel_rfl) (fun _ _ _ h => h) ?hy27 hHeld ?hr27
        case hi27 => (simp only [List.getElem?_toArray, List.getElem?_cons_succ, List.getElem?_cons_zero]; rfl)
        case hd27 => rfl
        case hy27 =>
          refine' Or.inl ⟨?hw27, ?hx27⟩
          case hw27 => rfl
          case hx27 => (intro w hSw; (try dsimp only at hSw); go_simp; (try with_reducible rfl))
        (try simp only [Act.put, List.setIfInBounds_toArray, List.set_cons_zero, List.set_cons_succ])
        refine' tk_any 2 54 (v := _) ?hi28 ?hd28 (by kernel_rfl) (by kernel_rfl) (by kernel_rfl) (fun _ _ _ h => h) ?hy28 hHeld ?hr28
        case hi28 => (simp only [List.getElem?_toArray, List.getElem?_cons_succ, List.getElem?_cons_zero]; rfl)
        case hd28 => rfl
        case hy28 =>
          refine' Or.inl ⟨?hw28, ?hx28⟩
          case hw28 => rfl
          case hx28 => (intro w hSw; (try dsimp only at hSw); go_simp; (try with_reducible rfl))
        (try simp only [Act.put, List.setIfInBounds_toArray, List.set_cons_zero, List.set_cons_succ])
        refine' tk_any 3 55 (v := _) ?hi29 ?hd29 (by kernel_rfl) (by kernel_rfl) (by kernel_rfl) (fun _ _ _ h => h) ?hy29 hHeld ?hr29
        case hi29 => (simp only [List.getElem?_toArray, List.getElem?_cons_succ, List.getElem?_cons_zero]; rfl)
        case hd29 => rfl
        case hy29 =>
          refine' Or.inl ⟨?hw29, ?hx29⟩
          case hw29 => rfl
          case hx29 => (intro w hSw; (try dsimp only at hSw); go_simp; (try with_reducible rfl))
        (try simp only [Act.put, List.setIfInBounds_toArray, List.set_cons_zero, List.set_cons_succ])
        refine' tk_any 4 56 (v := _) ?hi30 ?hd30 (by kernel_rfl) (by kernel_rfl) (by kernel_rfl) (fun _ _ _ h => h) ?hy30 hHeld ?hr30
        case hi30 => (simp only [List.getElem?_toArray, List.getElem?_cons_succ, List.getElem?_cons_zero]; rfl)
        case hd30 => rfl
        case hy30 =>
          refine' Or.inl ⟨?hw30, ?hx30⟩
          case hw30 => rfl
          case hx30 => (intro w hSw; (try dsimp only at hSw); go_simp; (try with_reducible rfl))
        (try simp only [Act.put, List.setIfInBounds_toArray, List.set_cons_zero, List.set_cons_succ])
        refine' tk_any 5 57 (v := _) ?hi31 ?hd31 (by kernel_rfl) (by kernel_rfl) (by kernel_rfl) (fun _ _ _ h => h) ?hy31 hHeld ?hr31
        case hi31 => (simp only [List.getElem?_toArray, List.getElem?_cons_succ, List.getElem?_cons_zero]; rfl)
        case hd31 => rfl
        case hy31 =>
          refine' Or.inl ⟨?hw31, ?hx31⟩
          case hw31 => rfl
          case hx31 => (intro w hSw; (try dsimp only at hSw); go_simp; (try with_reducible rfl))
        (try simp only [Act.put, List.setIfInBounds_toArray, List.set_cons_zero, List.set_cons_succ])
        refine' tk_any 6 58 (v := _) ?hi32 ?hd32 (by kernel_rfl) (by kernel_rfl) (by kernel_rfl) (fun _ _ _ h => h) ?hy32 hHeld ?hr32
        case hi32 => (simp only [List.getElem?_toArray, List.getElem?_cons_succ, List.getElem?_cons_zero]; rfl)
        case hd32 => rfl
        case hy32 =>
          refine' Or.inl ⟨?hw32, ?hx32⟩
          case hw32 => rfl
          case hx32 => (intro w hSw; (try dsimp only at hSw); go_simp; (try with_reducible rfl))
        (try simp only [Act.put, List.setIfInBounds_toArray, List.set_cons_zero, List.set_cons_succ])
        refine' tk_any 8 60 (v := _) ?hi33 ?hd33 (by kernel_rfl) (by kernel_rfl) (by kernel_rfl) (fun _ _ _ h => h) ?hy33 hHeld ?hr33
        case hi33 => (simp only [List.getElem?_toArray, List.getElem?_cons_succ, List.getElem?_cons_zero]; rfl)
        case hd33 => rfl
        case hy33 =>
          refine' Or.inl ⟨?hw33, ?hx33⟩
          case hw33 => rfl
          case hx33 => (intro w hSw; (try dsimp only at hSw); go_simp; (try with_reducible rfl))
        (try simp only [Act.put, List.setIfInBounds_toArray, List.set_cons_zero, List.set_cons_succ])
        refine' tk_any 9 61 (v := _) ?hi34 ?hd34 (by kernel_rfl) (by kernel_rfl) (by kernel_rfl) (fun _ _ _ h => h) ?hy34 hHeld ?hr34
        case hi34 => (simp only [List.getElem?_toArray, List.getElem?_cons_succ, List.getElem?_cons_zero]; rfl)
        case hd34 => rfl
        case hy34 =>
          refine' Or.inl ⟨?hw34, ?hx34⟩
          case hw34 => rfl
          case hx34 => (intro w hSw; (try dsimp only at hSw); go_simp; (try with_reducible rfl))
        (try simp only [Act.put, List.setIfInBounds_toArray, List.set_cons_zero, List.set_cons_succ])
        refine' tk_any 10 62 (v := _) ?hi35 ?hd35 (by kernel_rfl) (by kernel_rfl) (by kernel_rfl) (fun _ _ _ h => h) ?hy35 hHeld ?hr35
        case hi35 => (simp only [List.getElem?_toArray, List.getElem?_cons_succ, List.getElem?_cons_zero]; rfl)
        case hd35 => rfl
        case hy35 =>
          refine' Or.inl ⟨?hw35, ?hx35⟩
          case hw35 => rfl
          case hx35 => (intro w hSw; (try dsimp only at hSw); go_simp; (try with_reducible rfl))
        (try simp only [Act.put, List.setIfInBounds_toArray, List.set_cons_zero, List.set_cons_succ])
        refine' tk_call 7 ?hi36 (by kernel_rfl) ?hr36
        case hi36 => (simp only [List.getElem?_toArray, List.getElem?_cons_succ, List.getElem?_cons_zero]; rfl)
        intro K hK
        go_simp
        clear hHeld
        refine hK.out _ _ (by (try dsimp only); exact HBD.out.c1) (fun hHeld => ?_)
        clear hK K
        (try simp only [Act.put, List.setIfInBounds_toArray, List.set_cons_zero, List.set_cons_succ])
        refine' tk_any 11 63 (v := _) ?hi37 ?hd37 (by kernel_rfl) (by kernel_rfl) (by kernel_rfl) (fun _ _ _ h => h) ?hy37 hHeld ?hr37
        case hi37 => (simp only [List.getElem?_toArray, List.getElem?_cons_succ, List.getElem?_cons_zero]; rfl)
        case hd37 => rfl
        case hy37 =>
          refine' Or.inl ⟨?hw37, ?hx37⟩
          case hw37 => rfl
          case hx37 => (intro w hSw; (try dsimp only at hSw); go_simp; (try with_reducible rfl))
        (try simp only [Act.put, List.setIfInBounds_toArray, List.set_cons_zero, List.set_cons_succ])
        refine' tk_any 12 64 (v := _) ?hi38 ?hd38 (by kernel_rfl) (by kernel_rfl) (by kernel_rfl) (fun _ _ _ h => h) ?hy38 hHeld ?hr38
        case hi38 => (simp only [List.getElem?_toArray, List.getElem?_cons_succ, List.getElem?_cons_zero]; rfl)
        case hd38 => rfl
        case hy38 =>
          refine' Or.inl ⟨?hw38, ?hx38⟩
          case hw38 => rfl
          case hx38 => (intro w hSw; (try dsimp only at hSw); go_simp; (try with_reducible rfl))
        (try simp only [Act.put, List.setIfInBounds_toArray, List.set_cons_zero, List.set_cons_succ])
        refine' tk_call 13 ?hi39 (by kernel_rfl) ?hr39
        case hi39 => (simp only [List.getElem?_toArray, List.getElem?_cons_succ, List.getElem?_cons_zero]; rfl)
        intro K hK
        go_simp
        have HBE := Lib.hid (HBD.out.mark (g := gs) rfl HQL.out z)
        clear hHeld
        refine hK.out _ _ (by (try dsimp only); exact HBE.out.c1) (fun hHeld => ?_)
        clear hK K
        (try simp only [Act.put, List.setIfInBounds_toArray, List.set_cons_zero, List.set_cons_succ])
        refine wpAnyH_done (by kernel_rfl) ?_ _
        refine NoPanic.normal ?_
        go_wp2
        go_ret
        exact ⟨rfl, _, _, by rw [HFIN.out]; exact HBE.out, fun g c0 e1 e2 => by rw [HNW.out] at e2 ⊢; exact HF2.out g c0 (by rw [← HNW.out]; exact e1) e2⟩
end Go.Proofs.Ytfboejdddgedcaa

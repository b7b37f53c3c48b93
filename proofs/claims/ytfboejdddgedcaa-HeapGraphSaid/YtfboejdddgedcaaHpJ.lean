import Derived.Test.YtfboejdddgedcaaHpH
import Derived.Test.YtfboejdddgedcaaHpI
namespace Go.Proofs.Ytfboejdddgedcaa
open Go.RowKit

/-- what the rows of a heap hold while it is collected -/
structure GcC (cap c : Nat) (l : List Ob) (o : List Nat) (sp : List Ob) (W S P Z : List Nat) : Prop where
  lay : LayP W (hdF l o) l
  bits : BitsP S l
  layP : LayP P (hdK sp) sp
  bitsP : BitsP Z sp
  ord : OrdH l o
  sps : SpP l o sp
  used : usedH l ≤ cap
  big : cap ≤ 1048576
  s1 : S.length ≤ 16385
  z1 : Z.length ≤ 16385
  ok : OkL l
  oks : OkL sp
  room : usedH l ≤ c
/-- a heap that is being collected: the spare words lie in block g, with room for c -/
structure CpF (w : World) (N : Nat → Prop) (hb cap g c : Nat) (l : List Ob) (o : List Nat) (sp : List Ob) (vw vs ps : Value) (W S P Z : List Nat) : Prop where
  mem : HwM w N hb cap vw vs (.slice (some ⟨g, 0, none⟩) P.length c) ps W S P Z
  con : GcC cap c l o sp W S P Z
def GcM (w : World) (N : Nat → Prop) (hb cap g c : Nat) (l : List Ob) (o : List Nat) (sp : List Ob) : Prop := ∃ vw vs ps W S P Z, CpF w N hb cap g c l o sp vw vs ps W S P Z
theorem hdF_no (l : List Ob) {o : List Nat} {k : Nat} (hk : k ∉ o) : hdF l o k = hdK l k := by unfold hdF; rw [if_neg hk]
theorem hdF_yes (l : List Ob) {o : List Nat} {k : Nat} (hk : k ∈ o) : hdF l o k = 256 * (adrO l o (o.idxOf k) - 1) := by unfold hdF; rw [if_pos hk]
theorem ord_snoc {l : List Ob} {o : List Nat} (h : OrdH l o) {k : Nat} (hk : k < l.length) (hn : k ∉ o) : OrdH l (o ++ [k]) := by
  refine ⟨?_, fun j hj => ?_⟩
  · rw [List.nodup_append]
    refine ⟨h.1, by simp, fun a ha b hb => ?_⟩
    rw [List.mem_singleton] at hb
    rintro rfl
    exact hn (hb ▸ ha)
  · rcases List.mem_append.1 hj with h1 | h1
    · exact h.2 j h1
    · rw [List.mem_singleton] at h1; omega
theorem okl_snoc {l : List Ob} {x : Ob} (h : OkL l) (hx : 1 ≤ x.kind ∧ x.kind ≤ 127 ∧ ∀ y ∈ x.f, y < 18446744073709551616) : OkL (l ++ [x]) := fun k hk => by
  rw [List.length_append, List.length_singleton] at hk
  by_cases e : k = l.length
  · subst e; rw [getO_app_one]; exact hx
  · rw [getO_app_lt (by omega)]; exact h k (by omega)
theorem GcC.step {cap c k : Nat} {l : List Ob} {o : List Nat} {sp : List Ob} {W S P Z : List Nat} (h : GcC cap c l o sp W S P Z) (hk : k < l.length) (hko : k ∉ o) :
    GcC cap c l (o ++ [k]) (sp ++ [l.getD k ob0]) (W.set (adrH l k - 1) (256 * P.length)) S (P ++ headN (l.getD k ob0) :: (l.getD k ob0).f) (addS Z P.length) := by
  have hP := h.layP.len
  have hr := h.sps.room h.ord hk hko
  refine ⟨?_, h.bits, h.layP.add _, h.bitsP.add _ hP, ord_snoc h.ord hk hko, h.sps.snoc k, h.used, h.big, h.s1, ?_, h.ok, okl_snoc h.oks (h.ok k hk), h.room⟩
  · rw [hP, h.sps.used]
    exact (h.lay.sethd hk _).hdc fun j _ => hdF_snoc l hko j
  · rw [addS_len, hP]
    have := h.z1; have := h.used; have := h.big
    omega
section
variable {w w' : World} {N M : Nat → Prop} {hb cap g c k gw n cw : Nat} {l : List Ob} {o : List Nat} {sp : List Ob} {vw vs ps : Value} {W S P Z : List Nat}
theorem CpF.drew (h : CpF w N hb cap g c l o sp vw vs ps W S P Z) (d : Nat) : CpF (w.drewN d) N hb cap g c l o sp vw vs ps W S P Z := ⟨h.mem.drew d, h.con⟩
theorem CpF.object (h : CpF w N hb cap g c l o sp (.slice (some ⟨gw, 0, none⟩) n cw) vs ps W S P Z) (hk : k < l.length) (hko : k ∉ o) :
    Calls Try.prog 46 #[.pointer (some ⟨hb, 1, none⟩), .int .i64 ((adrH l k - 1 : Nat) : Int)] w fun e w' =>
      (∃ o d, e = .returned (.tuple #[.int .i64 (l.getD k ob0).kind, .slice (some ⟨gw, o, none⟩) (l.getD k ob0).f.length d]) ∧ (l.getD k ob0).f.length ≤ d ∧ (o = adrH l k ∨ (l.getD k ob0).f.length = 0)) ∧ ∃ d, w' = w.drewN d :=
  pobject_any h.mem.sp1 h.con.lay hk (hdF_no l hko) (h.con.ok k hk).1 (h.con.ok k hk).2.1 (Nat.le_trans h.con.used h.con.big)
theorem CpF.add (h : CpF w N hb cap g c l o sp (.slice (some ⟨gw, 0, none⟩) n cw) vs ps W S P Z) (hk : k < l.length) (hko : k ∉ o) (d2 oo dd : Nat) (hd : (l.getD k ob0).f.length ≤ dd) (ho : oo = adrH l k ∨ (l.getD k ob0).f.length = 0) :
    Calls Try.prog 41 #[.pointer (some ⟨hb, 3, none⟩), .int .i64 (l.getD k ob0).kind, .slice (some ⟨gw, oo, none⟩) (l.getD k ob0).f.length dd] (w.drewN d2) fun e w' =>
      e = .returned (.int .i64 P.length) ∧ ∃ ps2, HwM w' N hb cap (.slice (some ⟨gw, 0, none⟩) n cw) vs (.slice (some ⟨g, 0, none⟩) (P ++ headN (l.getD k ob0) :: (l.getD k ob0).f).length c) ps2 W S (P ++ headN (l.getD k ob0) :: (l.getD k ob0).f) (addS Z P.length) ∧ Ked N w w' := by
  have hP := h.con.layP.len
  have hr := h.con.sps.room h.con.ord hk hko
  have hs : szI l k = (l.getD k ob0).f.length + 1 := rfl
  obtain ⟨k1, k2, k3⟩ := h.con.ok k hk
  have hu := h.con.used
  have hbg := h.con.big
  have hrm := h.con.room
  have hH := h.mem.drew d2
  have hF : WdS (w.drewN d2) (fun b => b = gw) (.slice (some ⟨gw, oo, none⟩) (l.getD k ob0).f.length dd) (l.getD k ob0).f := by
    refine .mkSome gw oo dd _ _ rfl rfl ⟨by unfold maxLen; omega, hd⟩ (fun j hj => ?_) k3
    obtain rfl := ho.resolve_right (by omega)
    obtain ⟨g', c', hv, he, _⟩ := hH.r1.elem (j := adrH l k + j) (by rw [h.con.lay.len]; have := adrH_in (j := j + 1) hk (by omega); omega)
    cases hv
    rw [he, h.con.lay.fl k hk j hj]
  have hA := padd_any (fs := (l.getD k ob0).f) hH.start3 (l.getD k ob0).kind.toNat (by omega) hF (by
    rintro b rfl
    exact ⟨hH.r1.lt rfl, fun e => hH.n1 (by rw [← e]; rfl), fun e => hH.d13 b rfl e, fun e => hH.d14 b rfl e⟩) (by omega) (by have := h.con.z1; omega) (getD_lt_of_mem h.con.bitsP.lt)
  have hkk : (((l.getD k ob0).kind.toNat : Nat) : Int) = (l.getD k ob0).kind := by omega
  rw [hkk] at hA
  refine hA.mono ?_
  rintro e w' ⟨rfl, pw2, ps2, A, hfit⟩
  have hv := hfit g c rfl (by omega)
  subst hv
  have hlen : (P ++ headN (l.getD k ob0) :: (l.getD k ob0).f).length = P.length + 1 + (l.getD k ob0).f.length := by simp; omega
  refine ⟨rfl, ps2, ?_, (Ked.drew N w d2).trans (A.ked.mono fun b _ hN => hH.kp3 hN)⟩
  rw [hlen]
  exact hH.end3 A
end

set_option maxRecDepth 100000 in
set_option maxHeartbeats 8000000 in
/-- the place of an object's copy; it is copied if it has not been -/
theorem pcopied_any {w : World} {N : Nat → Prop} {hb cap g c k : Nat} {l : List Ob} {o : List Nat} {sp : List Ob} (h : GcM w N hb cap g c l o sp) (hk : k < l.length) :
    Calls Try.prog 52 #[.pointer (some ⟨hb, 0, none⟩), .int .i64 ((adrH l k - 1 : Nat) : Int)] w fun e w' =>
      e = .returned (.int .i64 ((adrO l (addN o (some k)) ((addN o (some k)).idxOf k) - 1 : Nat) : Int)) ∧ GcM w' N hb cap g c l (addN o (some k)) (cpyN l o sp k) ∧ Ked N w w' := by
  obtain ⟨vw, vs, ps, W, S, P, Z, hC⟩ := h
  obtain ⟨gw, cw, rfl⟩ := hC.mem.row (lay_pos hC.con.lay hk)
  have hpos := adrH_pos l k
  have hin := adrH_in (j := 0) hk (Nat.zero_le _)
  have hWl := hC.con.lay.len
  have hub : usedH l ≤ 1048576 := Nat.le_trans hC.con.used hC.con.big
  have hPW : adrH l k - 1 < W.length := by omega
  obtain ⟨g', c', hv, ey, hfy, _⟩ := hC.mem.r1.elem hPW
  cases hv
  rw [hC.con.lay.hd k hk] at ey
  have c1 := hC.mem.c1
  by_cases hko : k ∈ o
  · have ha : addN o (some k) = o := by unfold addN; simp only; rw [if_pos hko]
    have hcp : cpyN l o sp k = sp := by unfold cpyN; rw [if_pos hko]
    rw [ha, hcp]
    rw [hdF_yes l hko] at ey
    have hle : adrO l o (o.idxOf k) ≤ 1 + usedH l := by
      have h1 := List.idxOf_lt_length_iff.2 hko
      have h2 := hC.con.sps.le hC.con.ord
      have h3 := adrH_le (l := sp) (i := o.idxOf k) (j := sp.length) (by rw [hC.con.sps.len]; omega) (Nat.le_refl _)
      rw [adrH_end, hC.con.sps.adr] at h3
      omega
    have HC := Lib.hid (show GcM w N hb cap g c l o sp from ⟨_, vs, ps, W, S, P, Z, hC⟩)
    obtain ⟨t, ht⟩ : ∃ t, t = adrO l o (o.idxOf k) - 1 := ⟨_, rfl⟩
    rw [← ht] at ey ⊢
    have HPT := Lib.hid (pparts_any (256 * t) (by omega))
    rw [show 256 * t % 256 = 0 by omega, show 256 * t / 256 = t by omega] at HPT
    clear hC ht hfy hle
    generalize 256 * t = y at *
    obtain ⟨n, hn⟩ : ∃ n, n = W.length := ⟨_, rfl⟩
    rw [← hn] at hPW c1
    generalize adrH l k - 1 = p at *
    have hn1 : n ≤ 1048576 := by omega
    clear hn hWl hin hpos
    go_enter Try.func52, Try.ntmps52
    go_wp2_with fail
    refine (HPT.out w).mono ?_
    rintro e w' ⟨rfl, rfl⟩
    go_wp2
    go_ret
    exact ⟨rfl, HC.out, Ked.refl _ _⟩
  · have ha : addN o (some k) = o ++ [k] := by unfold addN; simp only; rw [if_neg hko]
    have hcp : cpyN l o sp k = sp ++ [l.getD k ob0] := by unfold cpyN; rw [if_neg hko]
    have had : adrO l (o ++ [k]) ((o ++ [k]).idxOf k) - 1 = P.length := by
      rw [idx_new hko, adrO_app l o [k] (Nat.le_refl _), adrO_end, hC.con.layP.len, hC.con.sps.used]; omega
    rw [ha, hcp, had]
    rw [hdF_no l hko] at ey
    obtain ⟨k1, k2, _⟩ := hC.con.ok k hk
    have hsl := adrH_in (j := (l.getD k ob0).f.length) hk (Nat.le_refl _)
    obtain ⟨hs1, hs2, hs3⟩ := head_small k1 k2 (by omega)
    have HPT := Lib.hid (pparts_any (hdK l k) hs1)
    rw [show hdK l k = headN (l.getD k ob0) from rfl] at HPT ey
    rw [hs2, hs3] at HPT
    have hPl : P.length ≤ 1048576 := by rw [hC.con.layP.len]; have := hC.con.sps.le hC.con.ord; omega
    have HHD := Lib.hid (phead_any 0 P.length (by omega) (by omega))
    have HSTEP := Lib.hid (hC.con.step hk hko)
    rw [show 256 * P.length = P.length * 256 + 0 by omega] at HSTEP
    have HOB := Lib.hid (fun (wd : World) (hCd : CpF wd N hb cap g c l o sp (.slice (some ⟨gw, 0, none⟩) W.length cw) vs ps W S P Z) => hCd.object hk hko)
    have HADD := Lib.hid (fun (wd : World) (d2 oo dd : Nat) (hCd : CpF wd N hb cap g c l o sp (.slice (some ⟨gw, 0, none⟩) W.length cw) vs ps W S P Z) (hd : (l.getD k ob0).f.length ≤ dd) (ho : oo = adrH l k ∨ (l.getD k ob0).f.length = 0) => hCd.add hk hko d2 oo dd hd ho)
    have hkd : ((l.getD k ob0).kind == 0) = false := by rw [beq_eq_false_iff_ne]; omega
    have HC := Lib.hid hC
    have HPW := Lib.hid hPW
    clear hC hs1 hs2 hs3 hsl had ha hcp hpos k1 k2 hfy
    generalize l.getD k ob0 = ob at *
    generalize hob : headN ob = y at *
    clear hob
    generalize hfs : ob.f = fs at *
    clear hfs
    generalize ob.kind = kd at *
    generalize P.length * 256 + 0 = x at *
    obtain ⟨n, hn⟩ : ∃ n, n = W.length := ⟨_, rfl⟩
    rw [← hn] at hPW c1 HOB HADD HC hWl
    have hn1 : n ≤ 1048576 := by omega
    have HNW := Lib.hid hn
    clear hn hWl hin
    generalize adrH l k - 1 = p at *
    go_enter Try.func52, Try.ntmps52
    go_wp2_with fail
    refine (HPT.out w).mono ?_
    rintro e w' ⟨rfl, rfl⟩
    go_wp2
    (try dsimp only [List.append])
    refine wp_region_noPanic ?_
    refine wp_region_held_drew (S := (fun _ => True)) (by kernel_rfl) (by (try dsimp only); try exact trivial) (fun hHeld => ?_)
    have HCd := Lib.hid (show CpF w.drew N hb cap g c l o sp (.slice (some ⟨gw, 0, none⟩) n cw) vs ps W S P Z from HC.out.drew 1)
    have HKd := Lib.hid (show Ked N w w.drew from Ked.drew N w 1)
    generalize w.drew = wd at hHeld HCd HKd ⊢
    refine' tk_any 0 23 (v := _) ?hi1 ?hd1 (by kernel_rfl) (by kernel_rfl) (by kernel_rfl) (fun _ _ _ h => h) ?hy1 hHeld ?hr1
    case hi1 => (simp only [List.getElem?_toArray, List.getElem?_cons_zero]; rfl)
    case hd1 => rfl
    case hy1 =>
      refine' Or.inl ⟨?hw1, ?hx1⟩
      case hw1 => rfl
      case hx1 => (intro w hSw; (try dsimp only at hSw); go_simp; (try with_reducible rfl))
    (try simp only [Act.put, List.setIfInBounds_toArray, List.set_cons_zero, List.set_cons_succ])
    refine' tk_any 1 24 (v := _) ?hi2 ?hd2 (by kernel_rfl) (by kernel_rfl) (by kernel_rfl) (fun _ _ _ h => h) ?hy2 hHeld ?hr2
    case hi2 => (simp only [List.getElem?_toArray, List.getElem?_cons_succ, List.getElem?_cons_zero]; rfl)
    case hd2 => rfl
    case hy2 =>
      refine' Or.inl ⟨?hw2, ?hx2⟩
      case hw2 => rfl
      case hx2 => (intro w hSw; (try dsimp only at hSw); go_simp; (try with_reducible rfl))
    (try simp only [Act.put, List.setIfInBounds_toArray, List.set_cons_zero, List.set_cons_succ])
    refine' tk_any 2 25 (v := _) ?hi3 ?hd3 (by kernel_rfl) (by kernel_rfl) (by kernel_rfl) (fun _ _ _ h => h) ?hy3 hHeld ?hr3
    case hi3 => (simp only [List.getElem?_toArray, List.getElem?_cons_succ, List.getElem?_cons_zero]; rfl)
    case hd3 => rfl
    case hy3 =>
      refine' Or.inl ⟨?hw3, ?hx3⟩
      case hw3 => rfl
      case hx3 => (intro w hSw; (try dsimp only at hSw); go_simp; (try with_reducible rfl))
    (try simp only [Act.put, List.setIfInBounds_toArray, List.set_cons_zero, List.set_cons_succ])
    refine' tk_any 3 26 (v := _) ?hi4 ?hd4 (by kernel_rfl) (by kernel_rfl) (by kernel_rfl) (fun _ _ _ h => h) ?hy4 hHeld ?hr4
    case hi4 => (simp only [List.getElem?_toArray, List.getElem?_cons_succ, List.getElem?_cons_zero]; rfl)
    case hd4 => rfl
    case hy4 =>
      refine' Or.inl ⟨?hw4, ?hx4⟩
      case hw4 => rfl
      case hx4 => (intro w hSw; (try dsimp only at hSw); go_simp; (try with_reducible rfl))
    (try simp only [Act.put, List.setIfInBounds_toArray, List.set_cons_zero, List.set_cons_succ])
    refine' tk_any 4 27 (v := _) ?hi5 ?hd5 (by kernel_rfl) (by kernel_rfl) (by kernel_rfl) (fun _ _ _ h => h) ?hy5 hHeld ?hr5
    case hi5 => (simp only [List.getElem?_toArray, List.getElem?_cons_succ, List.getElem?_cons_zero]; rfl)
    case hd5 => rfl
    case hy5 =>
      refine' Or.inl ⟨?hw5, ?hx5⟩
      case hw5 => rfl
      case hx5 => (intro w hSw; (try dsimp only at hSw); go_simp; (try with_reducible rfl))
    (try simp only [Act.put, List.setIfInBounds_toArray, List.set_cons_zero, List.set_cons_succ])
    refine' tk_any 5 28 (v := _) ?hi6 ?hd6 (by kernel_rfl) (by kernel_rfl) (by kernel_rfl) (fun _ _ _ h => h) ?hy6 hHeld ?hr6
    case hi6 => (simp only [List.getElem?_toArray, List.getElem?_cons_succ, List.getElem?_cons_zero]; rfl)
    case hd6 => rfl
    case hy6 =>
      refine' Or.inl ⟨?hw6, ?hx6⟩
      case hw6 => rfl
      case hx6 => (intro w hSw; (try dsimp only at hSw); go_simp; (try with_reducible rfl))
    (try simp only [Act.put, List.setIfInBounds_toArray, List.set_cons_zero, List.set_cons_succ])
    refine' tk_any 6 29 (v := _) ?hi7 ?hd7 (by kernel_rfl) (by kernel_rfl) (by kernel_rfl) (fun _ _ _ h => h) ?hy7 hHeld ?hr7
    case hi7 => (simp only [List.getElem?_toArray, List.getElem?_cons_succ, List.getElem?_cons_zero]; rfl)
    case hd7 => rfl
    case hy7 =>
      refine' Or.inl ⟨?hw7, ?hx7⟩
      case hw7 => rfl
      case hx7 => (intro w hSw; (try dsimp only at hSw); go_simp; (try with_reducible rfl))
    (try simp only [Act.put, List.setIfInBounds_toArray, List.set_cons_zero, List.set_cons_succ])
    refine' tk_call 7 ?hi8 (by kernel_rfl) ?hr8
    case hi8 => (simp only [List.getElem?_toArray, List.getElem?_cons_succ, List.getElem?_cons_zero]; rfl)
    intro K hK
    go_simp
    go_at_call 46
    refine ((HOB.out wd) HCd.out).mono ?_
    rintro e w2 ⟨⟨oo, dd, rfl, hod, hoo⟩, d2, rfl⟩
    have HAD := Lib.hid (HADD.out wd d2 oo dd HCd.out hod hoo)
    clear hod hoo
    go_wp2_with fail
    clear hHeld
    refine hK.out _ _ (by (try dsimp only); try exact trivial) (fun hHeld => ?_)
    clear hK K
    (try simp only [Act.put, List.setIfInBounds_toArray, List.set_cons_zero, List.set_cons_succ])
    refine' tk_any 8 31 (v := _) ?hi9 ?hd9 (by kernel_rfl) (by kernel_rfl) (by kernel_rfl) (fun _ _ _ h => h) ?hy9 hHeld ?hr9
    case hi9 => (simp only [List.getElem?_toArray, List.getElem?_cons_succ, List.getElem?_cons_zero]; rfl)
    case hd9 => rfl
    case hy9 =>
      refine' Or.inl ⟨?hw9, ?hx9⟩
      case hw9 => rfl
      case hx9 => (intro w hSw; (try dsimp only at hSw); go_simp; (try with_reducible rfl))
    (try simp only [Act.put, List.setIfInBounds_toArray, List.set_cons_zero, List.set_cons_succ])
    refine' tk_any 9 32 (v := _) ?hi10 ?hd10 (by kernel_rfl) (by kernel_rfl) (by kernel_rfl) (fun _ _ _ h => h) ?hy10 hHeld ?hr10
    case hi10 => (simp only [List.getElem?_toArray, List.getElem?_cons_succ, List.getElem?_cons_zero]; rfl)
    case hd10 => rfl
    case hy10 =>
      refine' Or.inl ⟨?hw10, ?hx10⟩
      case hw10 => rfl
      case hx10 => (intro w hSw; (try dsimp only at hSw); go_simp; (try with_reducible rfl))
    (try simp only [Act.put, List.setIfInBounds_toArray, List.set_cons_zero, List.set_cons_succ])
    refine' tk_call 10 ?hi11 (by kernel_rfl) ?hr11
    case hi11 => (simp only [List.getElem?_toArray, List.getElem?_cons_succ, List.getElem?_cons_zero]; rfl)
    intro K hK
    go_simp
    go_at_call 41
    refine HAD.out.mono ?_
    rintro e w3 ⟨rfl, ps2, h3, hk3⟩
    have H3 := Lib.hid h3
    have HK3 := Lib.hid (HKd.out.trans hk3)
    clear h3 hk3 HAD
    go_wp2_with fail
    clear hHeld
    refine hK.out _ _ (by (try dsimp only); try exact trivial) (fun hHeld => ?_)
    clear hK K
    (try simp only [Act.put, List.setIfInBounds_toArray, List.set_cons_zero, List.set_cons_succ])
    refine' tk_any 11 7 (v := _) ?hi12 ?hd12 (by kernel_rfl) (by kernel_rfl) (by kernel_rfl) (fun _ _ _ h => h) ?hy12 hHeld ?hr12
    case hi12 => (simp only [List.getElem?_toArray, List.getElem?_cons_succ, List.getElem?_cons_zero]; rfl)
    case hd12 => rfl
    case hy12 =>
      refine' Or.inl ⟨?hw12, ?hx12⟩
      case hw12 => rfl
      case hx12 => (intro w hSw; (try dsimp only at hSw); go_simp; (try with_reducible rfl))
    (try simp only [Act.put, List.setIfInBounds_toArray, List.set_cons_zero, List.set_cons_succ])
    refine wpAnyH_done (by kernel_rfl) ?_ _
    refine NoPanic.normal ?_
    go_wp2_with fail
    have c3 : w3.cell? ⟨hb, 1, none⟩ = some (.slice (some ⟨gw, 0, none⟩) n cw) := H3.out.c1
    obtain ⟨g3, c3', hv3, ey, hfy3, _⟩ := H3.out.r1.elem (j := p) HPW.out
    rw [← HNW.out] at hv3
    cases hv3
    have fy := hfy3 p
    clear hfy3
    obtain ⟨z, hz⟩ : ∃ z, z = W.getD p 0 := ⟨_, rfl⟩
    rw [← hz] at ey
    clear hz
    (try dsimp only [List.append])
    refine wp_region_noPanic ?_
    refine wp_region_held_drew (S := (fun w' => w'.cell? ⟨hb, 1, none⟩ = some (.slice (some ⟨gw, 0, none⟩) n cw))) (by kernel_rfl) (by (try dsimp only); exact c3) (fun hHeld => ?_)
    have HB5 := Lib.hid (show HwM w3.drew N hb cap (.slice (some ⟨gw, 0, none⟩) n cw) vs (.slice (some ⟨g, 0, none⟩) (P ++ y :: fs).length c) ps2 W S (P ++ y :: fs) (addS Z P.length) from H3.out.drew 1)
    have ed : w3.drew.cell? ⟨gw, p, none⟩ = some (.int .u64 (z : Nat)) := ey
    have fd : w3.drew.frozen? ⟨gw, p, none⟩ = false := fy
    have c4 : w3.drew.cell? ⟨hb, 1, none⟩ = some (.slice (some ⟨gw, 0, none⟩) n cw) := c3
    have HK4 := Lib.hid (show Ked N w w3.drew from HK3.out.trans (Ked.drew N w3 1))
    clear ey fy c3 H3
    generalize w3.drew = w4 at hHeld HB5 HK4 ed fd c4 ⊢
    refine' tk_any 0 34 (v := _) ?hi13 ?hd13 (by kernel_rfl) (by kernel_rfl) (by kernel_rfl) (fun _ _ _ h => h) ?hy13 hHeld ?hr13
    case hi13 => (simp only [List.getElem?_toArray, List.getElem?_cons_zero]; rfl)
    case hd13 => rfl
    case hy13 =>
      refine' Or.inl ⟨?hw13, ?hx13⟩
      case hw13 => rfl
      case hx13 => (intro w hSw; (try dsimp only at hSw); go_simp; (try with_reducible rfl))
    (try simp only [Act.put, List.setIfInBounds_toArray, List.set_cons_zero, List.set_cons_succ])
    refine' tk_any 1 35 (v := _) ?hi14 ?hd14 (by kernel_rfl) (by kernel_rfl) (by kernel_rfl) (fun _ _ _ h => h) ?hy14 hHeld ?hr14
    case hi14 => (simp only [List.getElem?_toArray, List.getElem?_cons_succ, List.getElem?_cons_zero]; rfl)
    case hd14 => rfl
    case hy14 =>
      refine' Or.inl ⟨?hw14, ?hx14⟩
      case hw14 => rfl
      case hx14 => (intro w hSw; (try dsimp only at hSw); go_simp; (try with_reducible rfl))
    (try simp only [Act.put, List.setIfInBounds_toArray, List.set_cons_zero, List.set_cons_succ])
    refine' tk_any 2 36 (v := _) ?hi15 ?hd15 (by kernel_rfl) (by kernel_rfl) (by kernel_rfl) (fun _ _ _ h => h) ?hy15 hHeld ?hr15
    case hi15 => (simp only [List.getElem?_toArray, List.getElem?_cons_succ, List.getElem?_cons_zero]; rfl)
    case hd15 => rfl
    case hy15 =>
      refine' Or.inl ⟨?hw15, ?hx15⟩
      case hw15 => rfl
      case hx15 => (intro w hSw; (try dsimp only at hSw); go_simp; (try with_reducible rfl))
    (try simp only [Act.put, List.setIfInBounds_toArray, List.set_cons_zero, List.set_cons_succ])
    refine' tk_any 3 37 (v := _) ?hi16 ?hd16 (by kernel_rfl) (by kernel_rfl) (by kernel_rfl) (fun _ _ _ h => h) ?hy16 hHeld ?hr16
    case hi16 => (simp only [List.getElem?_toArray, List.getElem?_cons_succ, List.getElem?_cons_zero]; rfl)
    case hd16 => rfl
    case hy16 =>
      refine' Or.inl ⟨?hw16, ?hx16⟩
      case hw16 => rfl
      case hx16 => (intro w hSw; (try dsimp only at hSw); go_simp; (try with_reducible rfl))
    (try simp only [Act.put, List.setIfInBounds_toArray, List.set_cons_zero, List.set_cons_succ])
    refine' tk_any 4 38 (v := _) ?hi17 ?hd17 (by kernel_rfl) (by kernel_rfl) (by kernel_rfl) (fun _ _ _ h => h) ?hy17 hHeld ?hr17
    case hi17 => (simp only [List.getElem?_toArray, List.getElem?_cons_succ, List.getElem?_cons_zero]; rfl)
    case hd17 => rfl
    case hy17 =>
      refine' Or.inl ⟨?hw17, ?hx17⟩
      case hw17 => rfl
      case hx17 => (intro w hSw; (try dsimp only at hSw); go_simp; (try with_reducible rfl))
    (try simp only [Act.put, List.setIfInBounds_toArray, List.set_cons_zero, List.set_cons_succ])
    refine' tk_any 5 39 (v := _) ?hi18 ?hd18 (by kernel_rfl) (by kernel_rfl) (by kernel_rfl) (fun _ _ _ h => h) ?hy18 hHeld ?hr18
    case hi18 => (simp only [List.getElem?_toArray, List.getElem?_cons_succ, List.getElem?_cons_zero]; rfl)
    case hd18 => rfl
    case hy18 =>
      refine' Or.inl ⟨?hw18, ?hx18⟩
      case hw18 => rfl
      case hx18 => (intro w hSw; (try dsimp only at hSw); go_simp; (try with_reducible rfl))
    (try simp only [Act.put, List.setIfInBounds_toArray, List.set_cons_zero, List.set_cons_succ])
    refine' tk_any 6 40 (v := _) ?hi19 ?hd19 (by kernel_rfl) (by kernel_rfl) (by kernel_rfl) (fun _ _ _ h => h) ?hy19 hHeld ?hr19
    case hi19 => (simp only [List.getElem?_toArray, List.getElem?_cons_succ, List.getElem?_cons_zero]; rfl)
    case hd19 => rfl
    case hy19 =>
      refine' Or.inl ⟨?hw19, ?hx19⟩
      case hw19 => rfl
      case hx19 => (intro w hSw; (try dsimp only at hSw); go_simp; (try with_reducible rfl))
    (try simp only [Act.put, List.setIfInBounds_toArray, List.set_cons_zero, List.set_cons_succ])
    refine' tk_call 7 ?hi20 (by kernel_rfl) ?hr20
    case hi20 => (simp only [List.getElem?_toArray, List.getElem?_cons_succ, List.getElem?_cons_zero]; rfl)
    intro K hK
    go_simp
    go_at_call 51
    refine (HHD.out _).mono ?_
    rintro e w5 ⟨rfl, rfl⟩
    go_wp2_with fail
    clear hHeld
    refine hK.out _ _ (by (try dsimp only); exact c4) (fun hHeld => ?_)
    clear hK K
    (try simp only [Act.put, List.setIfInBounds_toArray, List.set_cons_zero, List.set_cons_succ])
    refine' tk_any 8 42 (v := _) ?hi21 ?hd21 (by kernel_rfl) (by kernel_rfl) (by kernel_rfl) (fun _ _ _ h => h) ?hy21 hHeld ?hr21
    case hi21 => (simp only [List.getElem?_toArray, List.getElem?_cons_succ, List.getElem?_cons_zero]; rfl)
    case hd21 => rfl
    case hy21 =>
      refine' Or.inl ⟨?hw21, ?hx21⟩
      case hw21 => rfl
      case hx21 => (intro w hSw; (try dsimp only at hSw); go_simp; (try with_reducible rfl))
    (try simp only [Act.put, List.setIfInBounds_toArray, List.set_cons_zero, List.set_cons_succ])
    refine' tk_call 9 ?hi22 (by kernel_rfl) ?hr22
    case hi22 => (simp only [List.getElem?_toArray, List.getElem?_cons_succ, List.getElem?_cons_zero]; rfl)
    intro K hK
    go_simp
    have HF := Lib.hid (HB5.out.set1 (g := gw) rfl HPW.out x)
    have HKF := Lib.hid (show Ked N w (w4.setCell ⟨gw, p, none⟩ (.int .u64 (x : Nat))) from HK4.out.set (p := ⟨gw, p, none⟩) (fun _ hN => (HB5.out.out _ hN).2.2.1 rfl) _)
    clear hHeld
    refine hK.out _ _ (by (try dsimp only); exact HF.out.c1) (fun hHeld => ?_)
    clear hK K
    (try simp only [Act.put, List.setIfInBounds_toArray, List.set_cons_zero, List.set_cons_succ])
    refine wpAnyH_done (by kernel_rfl) ?_ _
    refine NoPanic.normal ?_
    go_wp2
    go_ret
    exact ⟨rfl, ⟨_, vs, ps2, _, S, _, _, HF.out, HSTEP.out⟩, HKF.out⟩
end Go.Proofs.Ytfboejdddgedcaa

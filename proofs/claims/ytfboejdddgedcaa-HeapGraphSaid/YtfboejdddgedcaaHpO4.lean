import Derived.Test.YtfboejdddgedcaaHpY2
namespace Go.Proofs.Ytfboejdddgedcaa
open Go.RowKit

/-- three rows of the call's own -/
structure Tri (w0 w : World) (o s t : Value) (O S T : List Nat) : Prop where
  r1 : RowM w o O
  r2 : RowM w s S
  r3 : RowM w t T
  d12 : Dj o s
  d13 : Dj o t
  d23 : Dj s t
  f1 : ∀ k, o.ownBlock = some k → w0.heap.size ≤ k
  f2 : ∀ k, s.ownBlock = some k → w0.heap.size ≤ k
  f3 : ∀ k, t.ownBlock = some k → w0.heap.size ≤ k
  bel : Below w0.heap.size w0 w
section
variable {w0 w wA w1 : World} {o s t o' : Value} {O S T O' : List Nat}
theorem Tri.swap12 (h : Tri w0 w o s t O S T) : Tri w0 w s o t S O T := ⟨h.r2, h.r1, h.r3, h.d12.symm, h.d23, h.d13, h.f2, h.f1, h.f3, h.bel⟩
theorem Tri.swap13 (h : Tri w0 w o s t O S T) : Tri w0 w t s o T S O := ⟨h.r3, h.r2, h.r1, h.d23.symm, h.d13.symm, h.d12.symm, h.f3, h.f2, h.f1, h.bel⟩
theorem Tri.drew (h : Tri w0 w o s t O S T) (d : Nat) : Tri w0 (w.drewN d) o s t O S T := ⟨h.r1.keep fun _ _ => rfl, h.r2.keep fun _ _ => rfl, h.r3.keep fun _ _ => rfl, h.d12, h.d13, h.d23, h.f1, h.f2, h.f3, below_dr h.bel d⟩
theorem Tri.app (h : Tri w0 w o s t O S T) (hb : Below w.heap.size w wA) (hr : RowM w1 o' O') (hg : wA.grownBy w1 o.ownBlock) (ho : o'.ownBlock = o.ownBlock ∨ o'.ownBlock = some wA.heap.size) : Tri w0 w1 o' s t O' S T := by
  have hne : ∀ {u : Value} {l : List Nat}, RowM w u l → Dj o u → Dj o' u := fun hu hd g hg1 hg2 => by
    rcases ho with e | e
    · rw [e] at hg1; exact hd g hg1 hg2
    · rw [e] at hg1; cases hg1; have := hu.lt hg2; have := hb.size; omega
  have hk : ∀ {u : Value} {l : List Nat}, RowM w u l → Dj o u → RowM w1 u l := fun hu hd => (hu.keep fun g hg1 => hb.block g (hu.lt hg1)).keep fun g hg1 => hg.block g (Nat.lt_of_lt_of_le (hu.lt hg1) hb.size) (fun e => hd g e.symm hg1)
  refine ⟨hr, hk h.r2 h.d12, hk h.r3 h.d13, hne h.r2 h.d12, hne h.r3 h.d13, h.d23, fun k hk1 => ?_, h.f2, h.f3, ?_⟩
  · rcases ho with e | e
    · rw [e] at hk1; exact h.f1 k hk1
    · rw [e] at hk1; cases hk1; exact Nat.le_trans h.bel.size hb.size
  · exact (h.bel.trans (hb.mono h.bel.size)).grown hg (Nat.le_trans h.bel.size hb.size) h.f1
end
theorem tri_nil (w : World) : Tri w w (.slice none 0 0) (.slice none 0 0) (.slice none 0 0) [] [] [] := by
  have hr : RowM w (.slice none 0 0) [] := World.ownsRow_nil _ _ _ _
  exact ⟨hr, hr, hr, nofun, nofun, nofun, nofun, nofun, nofun, Below.refl _ _⟩
theorem src_made (w : World) (xs : List Nat) (T : TypeId) : SrcU (w.alloc (.cells (rowU xs).toArray T)) (some ⟨w.heap.size, 0, none⟩) xs := by
  refine .inr ⟨_, rfl, fun j hj => ?_⟩
  rw [addh_none, Lib.cell_of_heap (heap_alloc_new w _) j]
  simp [rowU, List.getD_eq_getElem?_getD, hj]
theorem WdS.srcU {w : World} {ok : Nat → Prop} {v : Value} {l : List Nat} (h : WdS w ok v l) : ∃ a c, v = .slice a l.length c ∧ SrcU w a l := by
  cases h with
  | mkNil a c => exact ⟨a, c, rfl, SrcU.nil _ _⟩
  | mkSome b off cap n l h1 h2 h3 h4 h5 =>
    refine ⟨_, cap, by rw [h2], .inr ⟨_, rfl, fun j hj => ?_⟩⟩
    have e : (⟨b, off, none⟩ : Addr).add j = ⟨b, off + j, none⟩ := by unfold Addr.add; split <;> simp_all
    rw [e]; exact h4 j hj
/-- the last place up to there -/
def lastP (S : List Nat) (x k : Nat) : Option Nat := (List.range k).foldl (fun old j => if S.getD j 0 = x then some j else old) none
theorem lastP_succ (S : List Nat) (x k : Nat) : lastP S x (k + 1) = if S.getD k 0 = x then some k else lastP S x k := by
  unfold lastP
  rw [List.range_succ, List.foldl_append]
  rfl
theorem lastP_end (S : List Nat) (x : Nat) : lastP S x S.length = lastI S x := rfl
theorem lastP_lt (S : List Nat) (x : Nat) : ∀ k j, lastP S x k = some j → j < k
  | 0, j, h => by cases h
  | k + 1, j, h => by
    rw [lastP_succ] at h
    split at h
    · cases h; omega
    · have := lastP_lt S x k j h; omega
def oldI : Option Nat → Int
  | none => -1
  | some j => j
/-- what the rows of a graph hold -/
structure GrC (L : List Ob) (roots : List Nat) (i : Nat) (O S T : List Nat) : Prop where
  run : (gphH L (3000 - i) i S T O).1 = graphH L roots
  t : T.length ≤ 20 + 20 * i
  o : O.length ≤ 23 * i
  s : S.length ≤ i
  lt : ∀ x ∈ T, x < 18446744073709551616
  ol : ∀ x ∈ O, x < 18446744073709551616
theorem app_lt {O c : List Nat} (h : ∀ x ∈ O, x < 18446744073709551616) (hc : ∀ x ∈ c, x < 18446744073709551616) : ∀ x ∈ O ++ c, x < 18446744073709551616 := fun x hx => (List.mem_append.1 hx).elim (h x) (hc x)
theorem GrC.nothing {L : List Ob} {roots : List Nat} {i : Nat} {O S T : List Nat} (h : GrC L roots i O S T) (hi : i < 3000) (hT : i < T.length) (he : atH L (T.getD i 0) = none) : GrC L roots (i + 1) (O ++ [0, T.getD i 0]) S T := by
  refine ⟨?_, by have := h.t; omega, by have := h.o; simp; omega, by have := h.s; omega, h.lt, app_lt h.ol fun x hx => ?_⟩
  · have hr := h.run
    rw [show 3000 - i = (3000 - (i + 1)) + 1 by omega, gphH_succ, if_pos hT, he] at hr
    exact hr
  · rcases List.mem_cons.1 hx with rfl | hx
    · omega
    · rw [List.mem_singleton.1 hx]; exact h.lt _ (getD_mem hT)
theorem GrC.old {L : List Ob} {roots : List Nat} {i j k : Nat} {O S T : List Nat} (h : GrC L roots i O S T) (hi : i < 3000) (hT : i < T.length) (he : atH L (T.getD i 0) = some k) (hj : lastI S (T.getD i 0) = some j) : GrC L roots (i + 1) (O ++ [1, j]) S T := by
  refine ⟨?_, by have := h.t; omega, by have := h.o; simp; omega, by have := h.s; omega, h.lt, app_lt h.ol fun x hx => ?_⟩
  · have hr := h.run
    rw [show 3000 - i = (3000 - (i + 1)) + 1 by omega, gphH_succ, if_pos hT, he] at hr
    dsimp only at hr
    rw [hj] at hr
    exact hr
  · have h1 := lastP_lt S _ _ j hj
    have h2 := h.s
    rcases List.mem_cons.1 hx with rfl | hx
    · omega
    · rw [List.mem_singleton.1 hx]; omega
/-- the fields of what is new go to the words that are to come, or are written down -/
def foJ (kn j : Nat) (F : List Nat) : List Nat := if 64 ≤ kn then F.take j else []
def ftJ (kn j : Nat) (F : List Nat) : List Nat := if 64 ≤ kn then [] else F.take j
theorem foJ_zero (kn : Nat) (F : List Nat) : foJ kn 0 F = [] := by unfold foJ; split <;> simp
theorem ftJ_zero (kn : Nat) (F : List Nat) : ftJ kn 0 F = [] := by unfold ftJ; split <;> simp
theorem GrC.new {L : List Ob} {roots : List Nat} {i k kn : Nat} {O S T F : List Nat} (h : GrC L roots i O S T) (hi : i < 3000) (hT : i < T.length) (he : atH L (T.getD i 0) = some k) (hj : lastI S (T.getD i 0) = none)
    (hF : (L.getD k ob0).f = F) (hk : (L.getD k ob0).kind = (kn : Nat)) (hf : F.length ≤ 20) (hfl : ∀ x ∈ F, x < 18446744073709551616) (hkb : kn ≤ 127) :
    GrC L roots (i + 1) (O ++ [2, kn, F.length] ++ foJ kn F.length F) (S ++ [T.getD i 0]) (T ++ ftJ kn F.length F) := by
  have hr := h.run
  rw [show 3000 - i = (3000 - (i + 1)) + 1 by omega, gphH_succ, if_pos hT, he] at hr
  dsimp only at hr
  rw [hj] at hr
  dsimp only at hr
  rw [hF, hk] at hr
  have hc3 : ∀ x ∈ [2, kn, F.length], x < 18446744073709551616 := fun x hx => by
    rcases List.mem_cons.1 hx with rfl | hx
    · omega
    · rcases List.mem_cons.1 hx with rfl | hx
      · omega
      · rw [List.mem_singleton.1 hx]; omega
  have e1 : ((kn : Nat) : Int).toNat = kn := rfl
  rw [e1] at hr
  unfold foJ ftJ
  by_cases h64 : 64 ≤ kn
  · rw [if_neg (by omega)] at hr
    rw [if_pos h64, if_pos h64, List.take_length, List.append_nil]
    refine ⟨?_, by have := h.t; omega, by have := h.o; simp; omega, by have := h.s; simp; omega, h.lt, app_lt (app_lt h.ol hc3) hfl⟩
    rw [List.append_assoc]
    exact hr
  · rw [if_pos (by omega)] at hr
    rw [if_neg h64, if_neg h64, List.take_length, List.append_nil]
    exact ⟨hr, by have := h.t; simp; omega, by have := h.o; simp; omega, by have := h.s; simp; omega, app_lt h.lt hfl, app_lt h.ol hc3⟩
theorem GrC.done {L : List Ob} {roots : List Nat} {i : Nat} {O S T : List Nat} (h : GrC L roots i O S T) (hd : T.length ≤ i ∨ 3000 ≤ i) : O = graphH L roots := by
  have hr := h.run
  rcases hd with hd | hd
  · cases hn : 3000 - i with
    | zero => rw [hn] at hr; exact hr
    | succ n => rw [hn, gphH_succ, if_neg (by omega)] at hr; exact hr
  · rw [show 3000 - i = 0 by omega] at hr; exact hr
theorem take_s (F : List Nat) {j : Nat} (hj : j < F.length) : F.take (j + 1) = F.take j ++ [F.getD j 0] := take_succ_getD hj

set_option maxRecDepth 100000 in
set_option maxHeartbeats 16000000 in
/-- graph -/
theorem graph_any {w : World} {N ok : Nat → Prop} {hb cap : Nat} {L : List Ob} {v : Value} {roots : List Nat} (h : PhAt w N hb cap L) (hv : WdS w ok v roots) (hr20 : roots.length ≤ 20) (hf20 : ∀ k, k < L.length → (L.getD k ob0).f.length ≤ 20) :
    Calls Try.prog 39 #[.pointer (some ⟨hb, 0, none⟩), v] w fun e w' => ∃ r, e = .returned r ∧ RowM w' r (graphH L roots) ∧ (∀ k, r.ownBlock = some k → w.heap.size ≤ k) ∧ Below w.heap.size w w' ∧ (graphH L roots).length ≤ 69000 ∧ ∀ x ∈ graphH L roots, x < 18446744073709551616 := by
  have HP := Lib.hid (fun (wr : World) (hB : Below w.heap.size w wr) => h.later hB)
  have HU := Lib.hid h.used
  have HF20 := Lib.hid hf20
  obtain ⟨va, vc, rfl, hsrc⟩ := hv.srcU
  have HSRC := Lib.hid hsrc
  have HRL := Lib.hid hv.small
  clear h hv hf20 hsrc
  go_enter Try.func39, Try.ntmps39
  go_wp2_with (at_builtin; refine wpl_appU _ rfl _ _ rfl (v := .slice none 0 0) (l := []) (m := roots) (World.ownsRow_nil _ _ _ _) rfl (ad := va) (c := vc) HSRC.out rfl (by simp; omega) ?_)
  intro vx w1 hr hg ho
  obtain ⟨ta, tn, tc, rfl⟩ := hr.form
  have H0 := Lib.hid (show Tri w w1 (.slice none 0 0) (.slice none 0 0) (.slice ta tn tc) [] [] roots from ((tri_nil w).app (Below.refl _ w) hr hg ho).swap13)
  have HC0 := Lib.hid (show GrC L roots 0 [] [] roots from ⟨rfl, by omega, by simp, by simp, HRL.out, by simp⟩)
  clear hr hg ho HSRC
  go_wp2
  go_loopw [5, 6, 7, 8] (fun ov sv tv iv wr => ∃ (i : Nat) (O S T : List Nat) (oa : Option Addr) (on oc : Nat) (sa : Option Addr) (sn sc : Nat) (ta : Option Addr) (tn tc : Nat), i ≤ 3000 ∧ iv = .int .i64 i ∧ ov = .slice oa on oc ∧ sv = .slice sa sn sc ∧ tv = .slice ta tn tc ∧ Hid (Tri w wr (.slice oa on oc) (.slice sa sn sc) (.slice ta tn tc) O S T) ∧ Hid (GrC L roots i O S T)) (fun _ _ _ iv _ => 3000 - (intOf iv).toNat)
  case atStart => exact ⟨0, [], [], roots, none, 0, 0, none, 0, 0, ta, tn, tc, by omega, rfl, rfl, rfl, rfl, H0, HC0⟩
  case round =>
    obtain ⟨i, O, S, T, oa, on, oc, sa, sn, sc, ta, tn, tc, hi, rfl, rfl, rfl, rfl, HT, HC⟩ := hrel
    clear H0 HC0
    have htn : tn = T.length := by
      obtain ⟨_, _, e, _⟩ := HT.out.r3.val
      cases e; rfl
    have hsn : sn = S.length := by
      obtain ⟨_, _, e, _⟩ := HT.out.r2.val
      cases e; rfl
    have hbT := HC.out.t
    have hbO := HC.out.o
    have hbS := HC.out.s
    have htb : tn ≤ 100000 := by omega
    have hsb : sn ≤ 3000 := by omega
    have HTN := Lib.hid htn
    have HSN := Lib.hid hsn
    have HBO := Lib.hid hbO
    have HBT := Lib.hid hbT
    clear htn hsn hbT hbO hbS
    by_cases hit : i < tn
    case neg =>
      have HFIN := Lib.hid (HC.out.done (.inl (by rw [← HTN.out]; omega)))
      go_wp2
      go_ret
      exact ⟨_, rfl, by rw [← HFIN.out]; exact HT.out.r1, HT.out.f1, HT.out.bel, by rw [← HFIN.out]; have := HBO.out; omega, by rw [← HFIN.out]; exact HC.out.ol⟩
    by_cases hi3 : i < 3000
    case neg =>
      have HFIN := Lib.hid (HC.out.done (.inr (by omega)))
      go_wp2
      go_ret
      exact ⟨_, rfl, by rw [← HFIN.out]; exact HT.out.r1, HT.out.f1, HT.out.bel, by rw [← HFIN.out]; have := HBO.out; omega, by rw [← HFIN.out]; exact HC.out.ol⟩
    have HIT := Lib.hid (show i < T.length by rw [← HTN.out]; exact hit)
    obtain ⟨gt, ct, hvt, e0, _⟩ := HT.out.r3.get HIT.out
    rw [← HTN.out] at hvt
    cases hvt
    have hxl := HC.out.lt _ (getD_mem HIT.out)
    obtain ⟨x, hxx⟩ : ∃ x, x = T.getD i 0 := ⟨_, rfl⟩
    rw [← hxx] at e0 hxl
    have HXX := Lib.hid hxx
    have HK := Lib.hid (fun d => pkind_any ((HP.out wr HT.out.bel).drew d) x hxl)
    have HXL := Lib.hid hxl
    clear hxx hxl
    cases hat : atH L x with
    | none =>
      have HK0 := Lib.hid (HK.out 0)
      rw [show kindH L x = (0, false) by unfold kindH; rw [hat]] at HK0
      dsimp only at HK0
      have HC2 := Lib.hid (show GrC L roots (i + 1) (O ++ [0, x]) S T by rw [HXX.out]; exact HC.out.nothing hi3 HIT.out (by rw [← HXX.out]; exact hat))
      clear hat HK
      go_wp2_with fail
      refine HK0.out.mono ?_
      rintro e w2 ⟨rfl, d2, rfl⟩
      rw [World.drewN_drewN]
      have HTd := Lib.hid (HT.out.drew (0 + d2))
      have e1 : (wr.drewN (0 + d2)).cell? ⟨gt, i, none⟩ = some (.int .u64 (x : Nat)) := e0
      clear HK0 HT e0
      generalize wr.drewN (0 + d2) = wd at *
      go_wp2_with (at_builtin; refine wpl_appU _ rfl _ _ rfl (v := .slice oa on oc) (l := O) (m := [0, x]) (HTd.out.r1.keep (w' := wd.alloc (.cells #[.int .u64 0, .int .u64 ((x : Nat) : Int)] 32)) fun j hj => Below.heap_alloc _ _ _ (HTd.out.r1.lt hj)) rfl (ad := some ⟨wd.heap.size, 0, none⟩) (c := 2) (src_made wd [0, x] 32) rfl (by have := HBO.out; simp; omega) ?_)
      intro vx w3 hr hg ho hf
      obtain ⟨oa3, on3, oc3, rfl⟩ := hr.form
      have HT3 := Lib.hid ((HTd.out.app (wA := wd.alloc (.cells #[.int .u64 0, .int .u64 ((x : Nat) : Int)] 32)) ((Below.refl _ _).alloc (Nat.le_refl _) _) hr hg (by simpa using ho)))
      clear hr hg ho hf
      go_wp2
      exact ⟨⟨i + 1, _, _, _, oa3, on3, oc3, _, _, _, _, _, _, hi3, by go_num, rfl, rfl, rfl, HT3, HC2⟩, by simp [intOf]; omega⟩
    | some k =>
      have hkl := (atH_some.1 hat).1
      obtain ⟨hk1, hk2, hk3⟩ := HU.out.2.2 k hkl
      obtain ⟨kn, hkn⟩ : ∃ kn : Nat, (L.getD k ob0).kind = (kn : Nat) := ⟨(L.getD k ob0).kind.toNat, by omega⟩
      have hkb : kn ≤ 127 := by omega
      have HK0 := Lib.hid (HK.out 0)
      rw [show kindH L x = (((kn : Nat) : Int), true) by unfold kindH; rw [hat]; dsimp only; rw [hkn]] at HK0
      dsimp only at HK0
      have hat2 : atH L (T.getD i 0) = some k := by rw [← HXX.out]; exact hat
      have HLN := Lib.hid (fun (wz : World) (hB : Below w.heap.size w wz) => by have := plen_any (HP.out wz hB) x HXL.out; rw [len_flds] at this; exact this)
      have HFD := Lib.hid (fun (wz : World) (hB : Below w.heap.size w wz) (j : Nat) (hj : j < (fldsH L x).length) => by have := pfield_any (HP.out wz hB) x HXL.out j; rw [fld_at hj] at this; exact this)
      have hfx : fldsH L x = (L.getD k ob0).f := by unfold fldsH; rw [hat]
      have hf20 := HF20.out k hkl
      have HOLD := Lib.hid (fun j hj => HC.out.old (j := j) hi3 HIT.out hat2 hj)
      have HNEW := Lib.hid (fun hj => HC.out.new (kn := kn) (F := (L.getD k ob0).f) hi3 HIT.out hat2 hj rfl hkn hf20 hk3 hkb)
      rw [hfx] at HLN HFD
      obtain ⟨F, hF⟩ : ∃ F, F = (L.getD k ob0).f := ⟨_, rfl⟩
      rw [← hF] at HLN HFD HNEW hf20 hk3
      have HFB := Lib.hid hk3
      rw [← HXX.out] at HOLD HNEW
      obtain ⟨m, hm⟩ : ∃ m, m = F.length := ⟨_, rfl⟩
      rw [← hm] at HLN HFD HNEW hf20
      have HM := Lib.hid hm
      clear hat hkl hk1 hk2 hk3 hkn hat2 hfx HK hF hm
      go_wp2_with fail
      refine HK0.out.mono ?_
      rintro e w2 ⟨rfl, d2, rfl⟩
      rw [World.drewN_drewN]
      have HTd := Lib.hid (HT.out.drew (0 + d2))
      have e1 : (wr.drewN (0 + d2)).cell? ⟨gt, i, none⟩ = some (.int .u64 (x : Nat)) := e0
      clear HK0 HT e0
      obtain ⟨wd, hwd⟩ : ∃ x : World, x = wr.drewN (0 + d2) := ⟨_, rfl⟩
      rw [← hwd] at HTd e1 ⊢
      clear hwd
      go_wp2
      go_loopw [11, 12] (fun old kv wr2 => ∃ q d : Nat, q ≤ sn ∧ kv = .int .i64 q ∧ old = .int .i64 (oldI (lastP S x q)) ∧ wr2 = wd.drewN d) (fun _ kv _ => sn - (intOf kv).toNat)
      case atStart => exact ⟨0, 0, Nat.zero_le _, rfl, rfl, rfl⟩
      case round =>
        obtain ⟨q, d, hq, rfl, rfl, rfl⟩ := hrel
        by_cases hql : q < sn
        · obtain ⟨gs, cs, hvs, e2, _⟩ := HTd.out.r2.get (j := q) (by rw [← HSN.out]; exact hql)
          rw [← HSN.out] at hvs
          cases hvs
          have HLP := Lib.hid (lastP_succ S x q)
          obtain ⟨y, hy⟩ : ∃ y, y = S.getD q 0 := ⟨_, rfl⟩
          rw [← hy] at e2 HLP
          clear hy
          obtain ⟨oz, hoz⟩ : ∃ oz, oz = oldI (lastP S x q) := ⟨_, rfl⟩
          rw [← hoz]
          have HOZ := Lib.hid hoz
          clear hoz
          by_cases hxy : y = x
          · have hd : ((y : Int) == (x : Int)) = true := by rw [beq_iff_eq]; omega
            have HXY := Lib.hid hxy
            clear hxy
            go_wp2
            go_quiet (fail)
            go_wp2
            exact ⟨⟨q + 1, _, hql, by go_num, by rw [HLP.out, if_pos HXY.out]; rfl, rfl⟩, by simp [intOf]; omega⟩
          · have hd : ((y : Int) == (x : Int)) = false := by rw [beq_eq_false_iff_ne]; omega
            have HXY := Lib.hid hxy
            clear hxy
            go_wp2
            go_quiet (fail)
            go_wp2
            exact ⟨⟨q + 1, _, hql, by go_num, by rw [HLP.out, if_neg HXY.out, HOZ.out], rfl⟩, by simp [intOf]; omega⟩
        · obtain rfl : q = sn := by omega
          have HLI := Lib.hid (show lastP S x q = lastI S x by rw [HSN.out]; rfl)
          rw [HLI.out]
          have HTe := Lib.hid (HTd.out.drew d)
          have e2 : (wd.drewN d).cell? ⟨gt, i, none⟩ = some (.int .u64 (x : Nat)) := e1
          clear HTd e1
          generalize wd.drewN d = we at *
          cases hli : lastI S x with
          | some j =>
            have hjb : j < 3000 := by have := lastP_lt S x q j (by rw [HLI.out]; exact hli); omega
            have HC2 := Lib.hid (HOLD.out j hli)
            have hwj : IntKind.u64.wrap (j : Int) = (j : Int) := by rw [IntKind.wrap_u64]; omega
            have hj0 : (0 : Int) ≤ j := Int.natCast_nonneg _
            clear hli HOLD HNEW HLI
            show Code.wp _ _ _ _ _
            dsimp only [oldI]
            go_wp2_with (at_builtin; refine wpl_appU _ rfl _ _ rfl (v := .slice oa on oc) (l := O) (m := [1, j]) (HTe.out.r1.keep (w' := we.alloc (.cells #[.int .u64 1, .int .u64 ((j : Nat) : Int)] 32)) fun j hj => Below.heap_alloc _ _ _ (HTe.out.r1.lt hj)) rfl (ad := some ⟨we.heap.size, 0, none⟩) (c := 2) (src_made we [1, j] 32) rfl (by have := HBO.out; simp; omega) ?_)
            intro vx w3 hr hg ho hf
            obtain ⟨oa3, on3, oc3, rfl⟩ := hr.form
            have HT3 := Lib.hid ((HTe.out.app (wA := we.alloc (.cells #[.int .u64 1, .int .u64 ((j : Nat) : Int)] 32)) ((Below.refl _ _).alloc (Nat.le_refl _) _) hr hg (by simpa using ho)))
            clear hr hg ho hf
            go_wp2
            exact ⟨⟨i + 1, _, _, _, oa3, on3, oc3, _, _, _, _, _, _, hi3, by go_num, rfl, rfl, rfl, HT3, HC2⟩, by simp [intOf]; omega⟩
          | none =>
            have HC2 := Lib.hid (HNEW.out hli)
            clear hli HOLD HNEW HLI
            dsimp only [oldI]
            go_wp2_with (at_builtin; refine wpl_appU _ rfl _ _ rfl (v := .slice sa q sc) (l := S) (m := [x]) (HTe.out.r2.keep (w' := we.alloc (.cells #[.int .u64 ((x : Nat) : Int)] 32)) fun j hj => Below.heap_alloc _ _ _ (HTe.out.r2.lt hj)) rfl (ad := some ⟨we.heap.size, 0, none⟩) (c := 1) (src_made we [x] 32) rfl (by rw [← HSN.out]; simp; omega) ?_)
            intro vx w3 hr hg ho hf
            obtain ⟨sa3, sn3, sc3, rfl⟩ := hr.form
            have HT3 := Lib.hid ((HTe.out.swap12.app (wA := we.alloc (.cells #[.int .u64 ((x : Nat) : Int)] 32)) ((Below.refl _ _).alloc (Nat.le_refl _) _) hr hg (by simpa using ho)).swap12)
            clear hr hg ho hf
            obtain ⟨_, _, hv3, e3, _⟩ := HT3.out.r3.get HIT.out
            rw [← HTN.out] at hv3
            rw [← HXX.out] at e3
            cases hv3
            go_wp2_with fail
            refine (HLN.out w3 HT3.out.bel).mono ?_
            rintro e w4 ⟨rfl, d4, rfl⟩
            have HT4 := Lib.hid (HT3.out.drew d4)
            have e4 : (w3.drewN d4).cell? ⟨gt, i, none⟩ = some (.int .u64 (x : Nat)) := e3
            clear HT3 e3
            generalize w3.drewN d4 = w4 at *
            have hwk : IntKind.u64.wrap (kn : Int) = (kn : Int) := by rw [IntKind.wrap_u64]; omega
            have hwm : IntKind.u64.wrap (m : Int) = (m : Int) := by rw [IntKind.wrap_u64]; omega
            go_wp2_with (at_builtin; refine wpl_appU _ rfl _ _ rfl (v := .slice oa on oc) (l := O) (m := [2, kn, m]) (HT4.out.r1.keep (w' := w4.alloc (.cells #[.int .u64 2, .int .u64 ((kn : Nat) : Int), .int .u64 ((m : Nat) : Int)] 32)) fun j hj => Below.heap_alloc _ _ _ (HT4.out.r1.lt hj)) rfl (ad := some ⟨w4.heap.size, 0, none⟩) (c := 3) (src_made w4 [2, kn, m] 32) rfl (by have := HBO.out; simp; omega) ?_)
            intro vx w5 hr hg ho hf
            obtain ⟨oa5, on5, oc5, rfl⟩ := hr.form
            have HT5 := Lib.hid ((HT4.out.app (wA := w4.alloc (.cells #[.int .u64 2, .int .u64 ((kn : Nat) : Int), .int .u64 ((m : Nat) : Int)] 32)) ((Below.refl _ _).alloc (Nat.le_refl _) _) hr hg (by simpa using ho)))
            clear hr hg ho hf
            obtain ⟨_, _, hv5, e5, _⟩ := HT5.out.r3.get HIT.out
            rw [← HTN.out] at hv5
            rw [← HXX.out] at e5
            cases hv5
            have HFS := Lib.hid (show ∀ j, j < m → F.getD j 0 < 18446744073709551616 from fun j hj => HFB.out _ (getD_mem (by rw [← HM.out]; exact hj)))
            clear HT4 e4 hwk hwm
            go_wp2
            go_loopw [5, 7, 14] (fun ov tv jv wr => ∃ (j : Nat) (oa : Option Addr) (on oc : Nat) (ta : Option Addr) (tn2 tc : Nat), j ≤ m ∧ jv = .int .i64 j ∧ ov = .slice oa on oc ∧ tv = .slice ta tn2 tc ∧ Hid (Tri w wr (.slice oa on oc) (.slice sa3 sn3 sc3) (.slice ta tn2 tc) (O ++ [2, kn, m] ++ foJ kn j F) (S ++ [x]) (T ++ ftJ kn j F))) (fun _ _ jv _ => m - (intOf jv).toNat)
            case atStart => exact ⟨0, oa5, on5, oc5, _, _, _, Nat.zero_le _, rfl, rfl, rfl, Lib.hid (by rw [foJ_zero, ftJ_zero, List.append_nil, List.append_nil]; exact HT5.out)⟩
            case round =>
              obtain ⟨j, oa6, on6, oc6, ta6, tn6, tc6, hj, rfl, rfl, rfl, HT6⟩ := hrel
              clear HT5 e5
              have hn6 : tn6 = (T ++ ftJ kn j F).length := by
                obtain ⟨_, _, e, _⟩ := HT6.out.r3.val
                cases e; rfl
              have htj : (ftJ kn j F).length ≤ 20 := by unfold ftJ; split <;> simp <;> omega
              have hoj : (foJ kn j F).length ≤ 20 := by unfold foJ; split <;> simp <;> omega
              have hlt6 : i < (T ++ ftJ kn j F).length := by rw [List.length_append]; have := HIT.out; omega
              obtain ⟨g6, c6, hv6, e6, _⟩ := HT6.out.r3.get hlt6
              rw [← hn6] at hv6
              cases hv6
              rw [getD_app_lt HIT.out, ← HXX.out] at e6
              have hi6 : (i : Int) < tn6 := by omega
              have ht6b : tn6 ≤ 100100 := by rw [hn6, List.length_append, ← HTN.out]; omega
              have HOJ := Lib.hid hoj
              have HTJ := Lib.hid htj
              have HN6 := Lib.hid hn6
              clear hoj htj hn6 hlt6
              by_cases hjm : j < m
              · have HFJ := Lib.hid (HFD.out wr HT6.out.bel j hjm)
                have hjF : j < F.length := by rw [← HM.out]; exact hjm
                have HTK := Lib.hid (take_s F hjF)
                obtain ⟨y, hy⟩ : ∃ y, y = F.getD j 0 := ⟨_, rfl⟩
                rw [← hy] at HFJ HTK
                clear hjF hy
                go_wp2_with fail
                refine HFJ.out.mono ?_
                rintro e w7 ⟨rfl, d7, rfl⟩
                have HT7 := Lib.hid (HT6.out.drew d7)
                clear HT6 e6
                generalize wr.drewN d7 = w7 at *
                by_cases h64 : 64 ≤ kn
                · have hd64 : (64 : Int) ≤ kn := by omega
                  have HJ1 := Lib.hid (show O ++ [2, kn, m] ++ foJ kn (j + 1) F = (O ++ [2, kn, m] ++ foJ kn j F) ++ [y] by unfold foJ; rw [if_pos h64, if_pos h64, HTK.out]; simp only [List.append_assoc])
                  have HJ2 := Lib.hid (show ftJ kn (j + 1) F = ftJ kn j F by unfold ftJ; rw [if_pos h64, if_pos h64])
                  obtain ⟨OJ, hOJ⟩ : ∃ OJ, OJ = O ++ [2, kn, m] ++ foJ kn j F := ⟨_, rfl⟩
                  have hOJl : OJ.length ≤ 100000 := by rw [hOJ]; have := HOJ.out; have := HBO.out; simp; omega
                  rw [← hOJ] at HT7 HJ1
                  have HOL := Lib.hid hOJl
                  clear hOJ hOJl h64
                  go_wp2_with (at_builtin; refine wpl_appU _ rfl _ _ rfl (v := .slice oa6 on6 oc6) (l := OJ) (m := [y]) (HT7.out.r1.keep (w' := w7.alloc (.cells #[.int .u64 ((y : Nat) : Int)] 32)) fun j hj => Below.heap_alloc _ _ _ (HT7.out.r1.lt hj)) rfl (ad := some ⟨w7.heap.size, 0, none⟩) (c := 1) (src_made w7 [y] 32) rfl (by have := HOL.out; simp; omega) ?_)
                  intro vx w8 hr hg ho hf
                  obtain ⟨oa8, on8, oc8, rfl⟩ := hr.form
                  have HT8 := Lib.hid ((HT7.out.app (wA := w7.alloc (.cells #[.int .u64 ((y : Nat) : Int)] 32)) ((Below.refl _ _).alloc (Nat.le_refl _) _) hr hg (by simpa using ho)))
                  clear hr hg ho hf
                  go_wp2
                  exact ⟨⟨j + 1, oa8, on8, oc8, _, _, _, hjm, by go_num, rfl, rfl, Lib.hid (by rw [HJ1.out, HJ2.out]; exact HT8.out)⟩, by simp [intOf]; omega⟩
                · have hd64 : ¬ ((64 : Int) ≤ kn) := by omega
                  have HJ1 := Lib.hid (show T ++ ftJ kn (j + 1) F = (T ++ ftJ kn j F) ++ [y] by unfold ftJ; rw [if_neg h64, if_neg h64, HTK.out]; simp only [List.append_assoc])
                  have HJ2 := Lib.hid (show foJ kn (j + 1) F = foJ kn j F by unfold foJ; rw [if_neg h64, if_neg h64])
                  obtain ⟨TJ, hTJ⟩ : ∃ TJ, TJ = T ++ ftJ kn j F := ⟨_, rfl⟩
                  have hTJl : TJ.length ≤ 200000 := by rw [hTJ, ← HN6.out]; omega
                  rw [← hTJ] at HT7 HJ1
                  have HOL := Lib.hid hTJl
                  clear hTJ hTJl h64
                  go_wp2_with (at_builtin; refine wpl_appU _ rfl _ _ rfl (v := .slice (some ⟨g6, 0, none⟩) tn6 tc6) (l := TJ) (m := [y]) (HT7.out.r3.keep (w' := w7.alloc (.cells #[.int .u64 ((y : Nat) : Int)] 32)) fun j hj => Below.heap_alloc _ _ _ (HT7.out.r3.lt hj)) rfl (ad := some ⟨w7.heap.size, 0, none⟩) (c := 1) (src_made w7 [y] 32) rfl (by have := HOL.out; simp; omega) ?_)
                  intro vx w8 hr hg ho hf
                  obtain ⟨ta8, tn8, tc8, rfl⟩ := hr.form
                  have HT8 := Lib.hid ((HT7.out.swap13.app (wA := w7.alloc (.cells #[.int .u64 ((y : Nat) : Int)] 32)) ((Below.refl _ _).alloc (Nat.le_refl _) _) hr hg (by simpa using ho)).swap13)
                  clear hr hg ho hf
                  go_wp2
                  exact ⟨⟨j + 1, _, _, _, ta8, tn8, tc8, hjm, by go_num, rfl, rfl, Lib.hid (by rw [HJ1.out, HJ2.out]; exact HT8.out)⟩, by simp [intOf]; omega⟩
              · obtain rfl : j = m := by omega
                have HCF := Lib.hid (show GrC L roots (i + 1) (O ++ [2, kn, j] ++ foJ kn j F) (S ++ [x]) (T ++ ftJ kn j F) from HC2.out)
                go_wp2
                exact ⟨⟨i + 1, _, _, _, _, _, _, _, _, _, _, _, _, hi3, by go_num, rfl, rfl, rfl, HT6, HCF⟩, by simp [intOf]; omega⟩
end Go.Proofs.Ytfboejdddgedcaa

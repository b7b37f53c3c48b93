import Derived.Test.YtfboejdddgedcaaHpJ
namespace Go.Proofs.Ytfboejdddgedcaa
open Go.RowKit

section
variable {w w' : World} {N M : Nat → Prop} {hb cap g c : Nat} {l : List Ob} {o : List Nat} {sp : List Ob}
theorem GcM.oth (h : GcM w N hb cap g c l o sp) (hs : w.heap.size ≤ w'.heap.size) (hk : ∀ k, k < w.heap.size → ¬ N k → w'.heap[k]? = w.heap[k]?) (hM : ∀ b, M b → (N b ∨ w.heap.size ≤ b) ∧ b < w'.heap.size) : GcM w' M hb cap g c l o sp := by
  obtain ⟨vw, vs, ps, W, S, P, Z, hC⟩ := h
  exact ⟨vw, vs, ps, W, S, P, Z, hC.mem.oth hs hk hM, hC.con⟩
theorem GcM.low (h : GcM w N hb cap g c l o sp) : ∀ b, N b → b < w.heap.size := by
  obtain ⟨vw, vs, ps, W, S, P, Z, hC⟩ := h
  exact fun b hb => (hC.mem.out b hb).1
theorem GcM.find (h : GcM w N hb cap g c l o sp) (x : Nat) (hx : x < 18446744073709551616) :
    Calls Try.prog 49 #[.pointer (some ⟨hb, 1, none⟩), .int .u64 x] w fun e w' => e = .returned (.tuple #[.int .i64 (placeH l x).1, .bool (placeH l x).2]) ∧ w = w' := by
  obtain ⟨vw, vs, ps, W, S, P, Z, hC⟩ := h
  exact hC.mem.find hC.con.bits (by have := hC.con.s1; omega) x hx
theorem GcM.con (h : GcM w N hb cap g c l o sp) : OrdH l o ∧ SpP l o sp ∧ OkL l ∧ OkL sp ∧ usedH l ≤ 1048576 := by
  obtain ⟨vw, vs, ps, W, S, P, Z, hC⟩ := h
  exact ⟨hC.con.ord, hC.con.sps, hC.con.ok, hC.con.oks, Nat.le_trans hC.con.used hC.con.big⟩
/-- a field of a copy: read, set -/
theorem GcM.field (h : GcM w N hb cap g c l o sp) {i t : Nat} (hi : i < sp.length) (ht : t < (sp.getD i ob0).f.length) :
    w.cell? ⟨g, adrH sp i + t, none⟩ = some (.int .u64 ((sp.getD i ob0).f.getD t 0 : Nat)) ∧ w.frozen? ⟨g, adrH sp i + t, none⟩ = false ∧
    ∀ x : Nat, x < 18446744073709551616 → GcM (w.setCell ⟨g, adrH sp i + t, none⟩ (.int .u64 x)) N hb cap g c l o (sp.set i (setF (sp.getD i ob0) t x)) := by
  obtain ⟨vw, vs, ps, W, S, P, Z, hC⟩ := h
  have hP : adrH sp i + t < P.length := by rw [hC.con.layP.len]; have := adrH_in (j := t + 1) hi (by omega); omega
  obtain ⟨g', c', hv, he, hf, _⟩ := hC.mem.r3.elem hP
  cases hv
  rw [hC.con.layP.fl i hi t ht] at he
  refine ⟨he, hf _, fun x hx => ⟨vw, vs, ps, W, S, P.set (adrH sp i + t) x, Z, ?_, ?_⟩⟩
  · have := hC.mem.set3 (g := g) rfl hP x
    rw [List.length_set]
    exact this
  · have hs := setF_sz (sp.getD i ob0) t x
    have hc := hC.con
    refine ⟨hc.lay, hc.bits, hc.layP.set hi ht x, hc.bitsP.setF hi hs, hc.ord, hc.sps.set hi hs, hc.used, hc.big, hc.s1, hc.z1, hc.ok, fun j hj => ?_, hc.room⟩
    rw [List.length_set] at hj
    by_cases e : i = j
    · subst e
      rw [getO_set_eq hi]
      refine ⟨(hc.oks i hi).1, (hc.oks i hi).2.1, fun y hy => ?_⟩
      rcases List.mem_or_eq_of_mem_set hy with h1 | h1
      · exact (hc.oks i hi).2.2 y h1
      · rw [h1]; exact hx
    · rw [getO_set_ne e]; exact hc.oks j hj
end
theorem RowM.get {w : World} {v : Value} {l : List Nat} (h : RowM w v l) {j : Nat} (hj : j < l.length) : ∃ g c, v = .slice (some ⟨g, 0, none⟩) l.length c ∧ w.cell? ⟨g, j, none⟩ = some (.int .u64 (l.getD j 0 : Nat)) ∧ w.frozen? ⟨g, j, none⟩ = false := by
  obtain ⟨g, c, h1, h2, h3, _⟩ := h.elem hj
  exact ⟨g, c, h1, h2, h3 j⟩
theorem getD_mem {l : List Nat} {j : Nat} (h : j < l.length) : l.getD j 0 ∈ l := by simp [List.getD_eq_getElem?_getD, h]
theorem adrO_le {l : List Ob} {o : List Nat} {sp : List Ob} (ho : OrdH l o) (hs : SpP l o sp) {k : Nat} (hk : k ∈ o) : 1 ≤ adrO l o (o.idxOf k) ∧ adrO l o (o.idxOf k) ≤ 1 + usedH l := by
  have h1 := List.idxOf_lt_length_iff.2 hk
  have h2 := hs.le ho
  have h3 := adrH_le (l := sp) (i := o.idxOf k) (j := sp.length) (by rw [hs.len]; omega) (Nat.le_refl _)
  rw [adrH_end, hs.adr] at h3
  have h4 := adrH_pos sp (o.idxOf k)
  rw [hs.adr] at h4
  omega
theorem mem_addN_self (o : List Nat) (k : Nat) : k ∈ addN o (some k) := addN_mem.2 (.inr rfl)

set_option maxRecDepth 20000 in
set_option maxHeartbeats 1600000 in
/-- words that refer to nothing stay -/
theorem pfollow_none {w : World} {N : Nat → Prop} {hb cap : Nat} {l : List Ob} {vw vs pw ps va : Value} {W S P Z ws : List Nat} (h : HwM w N hb cap vw vs pw ps W S P Z) (hB : BitsP S l) (hS : S.length ≤ 100000) (hr : RowM w va ws) (hws : ∀ x ∈ ws, x < 18446744073709551616) (hn : ∀ x ∈ ws, atH l x = none) :
    Calls Try.prog 45 #[.pointer (some ⟨hb, 0, none⟩), va] w fun e w' => e = .returned (.tuple #[]) ∧ w = w' := by
  have HF := Lib.hid (fun x (hx : x ∈ ws) => by have := h.find (l := l) hB hS x (hws x hx); rw [place_none (hn x hx)] at this; exact this)
  have HR := Lib.hid hr
  obtain ⟨a, ca, rfl, _, hm⟩ := hr.val
  have hm2 : (ws.length : Int) ≤ 9223372036854775807 := by
    have := hr.val
    obtain ⟨_, _, e, h1, h2⟩ := this
    unfold maxLen at h2; omega
  obtain ⟨n, hn2⟩ : ∃ n, n = ws.length := ⟨_, rfl⟩
  have HN := Lib.hid hn2
  rw [← hn2] at HR hm2 ⊢
  clear h hB hS hr hws hn hm hn2
  go_enter Try.func45, Try.ntmps45
  go_wp2
  go_loop [10] (fun i => ∃ t : Nat, t ≤ n ∧ i = .int .i64 t) (fun i => n - (intOf i).toNat)
  case atStart => exact ⟨0, Nat.zero_le _, rfl⟩
  case round =>
    obtain ⟨t, ht, rfl⟩ := hrel
    by_cases hlt : t < n
    · have htw : t < ws.length := by rw [← HN.out]; exact hlt
      obtain ⟨g, c, hv, e0, _⟩ := HR.out.get htw
      rw [← HN.out] at hv
      cases hv
      have HFX := Lib.hid (HF.out _ (getD_mem htw))
      generalize ws.getD t 0 = x at *
      clear htw
      go_wp2_with fail
      refine HFX.out.mono ?_
      rintro e w' ⟨rfl, rfl⟩
      go_wp2
      go_round
      case rel => exact ⟨t + 1, by omega, by go_num⟩
      case measure => simp [intOf]; omega
    · obtain rfl : t = n := by omega
      go_wp2
      refine bodyPost_end (v := .tuple #[]) ?_ ?_ ?_
      · simp [results, Try.results45, go_sem]
      · rfl
      · exact ⟨rfl, rfl⟩

set_option maxRecDepth 20000 in
set_option maxHeartbeats 3200000 in
/-- a row of words of its own is followed -/
theorem pfollow_row {w : World} {N : Nat → Prop} {hb cap g c : Nat} {l : List Ob} {o : List Nat} {sp : List Ob} {va : Value} {ws : List Nat} (h : GcM w N hb cap g c l o sp) (hr : RowM w va ws) (hN : ∀ b, va.ownBlock = some b → N b) (hws : ∀ x ∈ ws, x < 18446744073709551616) :
    Calls Try.prog 45 #[.pointer (some ⟨hb, 0, none⟩), va] w fun e w' => e = .returned (.tuple #[]) ∧ GcM w' N hb cap g c l (visitH l o ws) (cpyH l o sp ws) ∧ RowM w' va (ws.map (relocH l (visitH l o ws))) ∧ Ked (fun b => N b ∧ va.ownBlock ≠ some b) w w' := by
  have HR := Lib.hid hr
  obtain ⟨a, ca, rfl, _, hm⟩ := hr.val
  have hm2 : (ws.length : Int) ≤ 9223372036854775807 := by
    have := hr.val
    obtain ⟨_, _, e, h1, h2⟩ := this
    unfold maxLen at h2; omega
  obtain ⟨n, hn2⟩ : ∃ n, n = ws.length := ⟨_, rfl⟩
  have HNL := Lib.hid hn2
  rw [← hn2] at HR hm2 hN ⊢
  have HG := Lib.hid h
  have HNB := Lib.hid hN
  have HWS := Lib.hid hws
  clear h hr hws hm hn2 hN
  go_enter Try.func45, Try.ntmps45
  go_wp2
  go_loopw [10] (fun i wr => ∃ t : Nat, t ≤ n ∧ i = .int .i64 t ∧ Hid (GcM wr N hb cap g c l (visitH l o (ws.take t)) (cpyH l o sp (ws.take t))) ∧ Hid (RowM wr (.slice a n ca) (relW l o ws t)) ∧ Hid (Ked (fun b => N b ∧ (Value.slice a n ca).ownBlock ≠ some b) w wr)) (fun i _ => n - (intOf i).toNat)
  case atStart => exact ⟨0, Nat.zero_le _, rfl, Lib.hid (by rw [List.take_zero, cpy_nil]; exact HG.out), Lib.hid (by rw [relW_zero]; exact HR.out), Lib.hid (Ked.refl _ _)⟩
  case round =>
    obtain ⟨t, ht, rfl, HGR, HRR, HK⟩ := hrel
    by_cases hlt : t < n
    · have htw : t < ws.length := by rw [← HNL.out]; exact hlt
      obtain ⟨ga, ca', hv, e0, f0⟩ := HRR.out.get (j := t) (by rw [relW_len]; exact htw)
      rw [relW_len, ← HNL.out] at hv
      cases hv
      rw [relW_at l o ws htw] at e0
      have hxl := HWS.out _ (getD_mem htw)
      have HFX := Lib.hid (HGR.out.find _ hxl)
      have HTW := Lib.hid htw
      cases hat : atH l (ws.getD t 0) with
      | none =>
        rw [place_none hat] at HFX
        dsimp only at HFX
        have HG2 := Lib.hid (show GcM wr N hb cap g c l (visitH l o (ws.take (t + 1))) (cpyH l o sp (ws.take (t + 1))) by
          rw [take_succ_getD htw, cpy_none hat, visit_snoc, hat]; exact HGR.out)
        have HR2 := Lib.hid (show RowM wr (.slice (some ⟨ga, 0, none⟩) n ca) (relW l o ws (t + 1)) by rw [relW_none htw hat]; exact HRR.out)
        clear hat htw hxl HGR HRR
        generalize ws.getD t 0 = x at *
        go_wp2_with fail
        refine HFX.out.mono ?_
        rintro e w' ⟨rfl, rfl⟩
        go_wp2
        refine ⟨⟨t + 1, hlt, by go_num, HG2, HR2, HK⟩, by simp [intOf]; omega⟩
      | some k =>
        have hk := (atH_some.1 hat).1
        rw [place_some hat] at HFX
        dsimp only at HFX
        have HCP := Lib.hid (pcopied_any HGR.out hk)
        obtain ⟨hcord, hcsp, hcok, _, hcu⟩ := HGR.out.con
        have hv2 : visitH l o (ws.take (t + 1)) = addN (visitH l o (ws.take t)) (some k) := by rw [take_succ_getD htw, visit_snoc, hat]
        have hc2 : cpyH l o sp (ws.take (t + 1)) = cpyN l (visitH l o (ws.take t)) (cpyH l o sp (ws.take t)) k := by rw [take_succ_getD htw, cpy_some hat]
        have hrl : relocH l (visitH l o (ws.take (t + 1))) (ws.getD t 0) = 4 * adrO l (addN (visitH l o (ws.take t)) (some k)) ((addN (visitH l o (ws.take t)) (some k)).idxOf k) := by
          rw [reloc_some hat, hv2]
        have hrs := relW_step (l := l) (o := o) htw
        rw [hrl] at hrs
        rw [← hv2, ← hc2] at HCP
        rw [← hv2] at hrs
        obtain ⟨z, hz⟩ : ∃ z, z = adrO l (visitH l o (ws.take (t + 1))) ((visitH l o (ws.take (t + 1))).idxOf k) := ⟨_, rfl⟩
        rw [← hz] at HCP hrs
        have HRS := Lib.hid hrs
        have HZ := Lib.hid (fun (w2 : World) (hg : GcM w2 N hb cap g c l (visitH l o (ws.take (t + 1))) (cpyH l o sp (ws.take (t + 1)))) => show 1 ≤ z ∧ z ≤ 1 + usedH l by
          rw [hz]
          obtain ⟨q1, q2, _⟩ := hg.con
          exact adrO_le q1 q2 (by rw [hv2]; exact mem_addN_self _ _))
        clear hat hk hcord hcsp hcok hv2 hc2 hrl hrs hz hxl htw
        generalize ws.getD t 0 = x at *
        generalize adrH l k - 1 = p at *
        go_wp2_with fail
        refine HFX.out.mono ?_
        rintro e w' ⟨rfl, rfl⟩
        go_wp2_with fail
        refine HCP.out.mono ?_
        rintro e w2 ⟨rfl, hg2, hk2⟩
        obtain ⟨hz1, hz2⟩ := HZ.out w2 hg2
        obtain ⟨y, rfl⟩ : ∃ y, z = y + 1 := ⟨z - 1, by omega⟩
        rw [show y + 1 - 1 = y by omega]
        have hR2 : RowM w2 (.slice (some ⟨ga, 0, none⟩) n ca) (relW l o ws t) := HRR.out.keep fun b hb => hk2.block b (HRR.out.lt hb) (HNB.out b hb)
        obtain ⟨_, _, hv', e2, f2⟩ := hR2.get (j := t) (by rw [relW_len]; exact HTW.out)
        rw [relW_len, ← HNL.out] at hv'
        cases hv'
        have HR3 := Lib.hid (hR2.set (g := ga) rfl (j := t) (by rw [relW_len]; exact HTW.out) (4 * (y + 1)))
        rw [← HRS.out] at HR3
        have HG3 := Lib.hid (show GcM (w2.setCell ⟨ga, t, none⟩ (.int .u64 ((4 * (y + 1) : Nat) : Int))) N hb cap g c l (visitH l o (ws.take (t + 1))) (cpyH l o sp (ws.take (t + 1))) from hg2.oth (by simp [World.setCell]) (fun j _ hj => heap_setCell_other _ _ _ _ (fun e => hj (by rw [e]; exact HNB.out ga rfl))) (fun b hb => ⟨.inl hb, by simpa [World.setCell] using hg2.low b hb⟩))
        have HK3 := Lib.hid (show Ked (fun b => N b ∧ (Value.slice (some ⟨ga, 0, none⟩) n ca).ownBlock ≠ some b) w (w2.setCell ⟨ga, t, none⟩ (.int .u64 ((4 * (y + 1) : Nat) : Int))) from (HK.out.trans (hk2.mono fun b _ h => h.1)).set (p := ⟨ga, t, none⟩) (fun _ hN => hN.2 rfl) _)
        have HWA := Lib.hid (pwordat_any y (by omega))
        clear hg2 hk2 hR2 hz1 hz2 HZ HCP HRS HGR HRR HK
        generalize 4 * (y + 1) = q at *
        go_wp2_with fail
        refine (HWA.out w2).mono ?_
        rintro e w3 ⟨rfl, rfl⟩
        go_wp2
        refine ⟨⟨t + 1, hlt, by go_num, HG3, HR3, HK3⟩, by simp [intOf]; omega⟩
    · obtain rfl : t = n := by omega
      have HFIN := Lib.hid (show GcM wr N hb cap g c l (visitH l o ws) (cpyH l o sp ws) ∧ RowM wr (.slice a t ca) (ws.map (relocH l (visitH l o ws))) by
        have h1 := HGR.out
        have h2 := HRR.out
        rw [HNL.out, List.take_length] at h1
        rw [HNL.out, relW_end] at h2
        exact ⟨h1, by rw [HNL.out]; exact h2⟩)
      go_wp2
      refine bodyPost_end (v := .tuple #[]) ?_ ?_ ?_
      · simp [results, Try.results45, go_sem]
      · rfl
      · exact ⟨rfl, HFIN.out.1, HFIN.out.2, HK.out⟩

theorem cpy_set (l : List Ob) (o : List Nat) (sp : List Ob) (ws : List Nat) {i : Nat} (hi : i < sp.length) (x : Ob) : (cpyH l o sp ws).set i x = cpyH l o (sp.set i x) ws := by
  unfold cpyH
  rw [List.set_append_left _ _ hi]
theorem cpy_get (l : List Ob) (o : List Nat) (sp : List Ob) (ws : List Nat) {i : Nat} (hi : i < sp.length) : (cpyH l o sp ws).getD i ob0 = sp.getD i ob0 := by
  unfold cpyH
  exact getO_app_lt hi
theorem cpy_adr (l : List Ob) (o : List Nat) (sp : List Ob) (ws : List Nat) {i : Nat} (hi : i < sp.length) : adrH (cpyH l o sp ws) i = adrH sp i := by
  unfold cpyH
  exact adrH_app _ _ (Nat.le_of_lt hi)
theorem cpy_len (l : List Ob) (o : List Nat) (sp : List Ob) (ws : List Nat) : sp.length ≤ (cpyH l o sp ws).length := by unfold cpyH; simp

set_option maxRecDepth 20000 in
set_option maxHeartbeats 3200000 in
/-- the fields of a copy are followed -/
theorem pfollow_fields {w : World} {N : Nat → Prop} {hb cap g c i oo dd : Nat} {l : List Ob} {o : List Nat} {sp : List Ob} {kd : Int} {fs : List Nat} (h : GcM w N hb cap g c l o sp) (hi : i < sp.length) (hsp : sp.getD i ob0 = ⟨kd, fs⟩) (ho : oo = adrH sp i ∨ fs.length = 0) :
    Calls Try.prog 45 #[.pointer (some ⟨hb, 0, none⟩), .slice (some ⟨g, oo, none⟩) fs.length dd] w fun e w' => e = .returned (.tuple #[]) ∧ GcM w' N hb cap g c l (visitH l o fs) (cpyH l o (sp.set i ⟨kd, fs.map (relocH l (visitH l o fs))⟩) fs) ∧ Ked N w w' := by
  have hfl := adrH_in (l := sp) (k := i) (j := fs.length) hi (by rw [hsp]; exact Nat.le_refl _)
  obtain ⟨q1, q2, q3, q4, q5⟩ := h.con
  have hsl := q2.le q1
  have hws : ∀ x ∈ fs, x < 18446744073709551616 := by have := (q4 i hi).2.2; rwa [hsp] at this
  obtain ⟨n, hn2⟩ : ∃ n, n = fs.length := ⟨_, rfl⟩
  have HNL := Lib.hid hn2
  have hm2 : (n : Int) ≤ 1048576 := by omega
  have HG := Lib.hid (show GcM w N hb cap g c l o (sp.set i ⟨kd, fs⟩) by
    have e : sp.set i ⟨kd, fs⟩ = sp := by
      apply List.ext_getElem (by simp)
      intro j h1 h2
      rw [List.getElem_set]
      split
      · rename_i e; subst e; rw [← hsp]; simp [List.getD_eq_getElem?_getD, hi]
      · rfl
    rw [e]; exact h)
  have HWS := Lib.hid hws
  have HA := Lib.hid (fun (fs' : List Nat) (hl : fs'.length = fs.length) => show adrH (sp.set i ⟨kd, fs'⟩) i = adrH sp i from adrH_set hi (by rw [hsp]; simp [szO, hl]) i)
  have HI := Lib.hid hi
  rw [← hn2] at ho ⊢
  clear h hsp hws hn2 hfl hsl q1 q2 q3 q4 q5 hi
  generalize adrH sp i = q at *
  have HOO := Lib.hid ho
  clear ho
  go_enter Try.func45, Try.ntmps45
  go_wp2
  go_loopw [10] (fun iv wr => ∃ t : Nat, t ≤ n ∧ iv = .int .i64 t ∧ Hid (GcM wr N hb cap g c l (visitH l o (fs.take t)) (cpyH l o (sp.set i ⟨kd, relW l o fs t⟩) (fs.take t))) ∧ Hid (Ked N w wr)) (fun iv _ => n - (intOf iv).toNat)
  case atStart => exact ⟨0, Nat.zero_le _, rfl, Lib.hid (by rw [List.take_zero, cpy_nil, relW_zero]; exact HG.out), Lib.hid (Ked.refl _ _)⟩
  case round =>
    obtain ⟨t, ht, rfl, HGR, HK⟩ := hrel
    by_cases hlt : t < n
    · have htw : t < fs.length := by rw [← HNL.out]; exact hlt
      obtain rfl : oo = q := HOO.out.resolve_right (by omega)
      have hil : i < (sp.set i ⟨kd, relW l o fs t⟩).length := by rw [List.length_set]; exact HI.out
      have hge : (cpyH l o (sp.set i ⟨kd, relW l o fs t⟩) (fs.take t)).getD i ob0 = ⟨kd, relW l o fs t⟩ := by rw [cpy_get l o _ _ hil, getO_set_eq HI.out]
      have hae : adrH (cpyH l o (sp.set i ⟨kd, relW l o fs t⟩) (fs.take t)) i = oo := by rw [cpy_adr l o _ _ hil]; exact HA.out _ (relW_len l o fs t)
      have hF := HGR.out.field (i := i) (t := t) (Nat.lt_of_lt_of_le hil (cpy_len l o _ _)) (by rw [hge]; show t < (relW l o fs t).length; rw [relW_len]; exact htw)
      rw [hge, hae] at hF
      have e0 := hF.1
      have f0 := hF.2.1
      clear hF
      dsimp only at e0
      rw [relW_at l o fs htw] at e0
      have hxl := HWS.out _ (getD_mem htw)
      have HFX := Lib.hid (HGR.out.find _ hxl)
      cases hat : atH l (fs.getD t 0) with
      | none =>
        rw [place_none hat] at HFX
        dsimp only at HFX
        have HG2 := Lib.hid (show GcM wr N hb cap g c l (visitH l o (fs.take (t + 1))) (cpyH l o (sp.set i ⟨kd, relW l o fs (t + 1)⟩) (fs.take (t + 1))) by
          rw [take_succ_getD htw, cpy_none hat, visit_snoc, hat, relW_none htw hat]; exact HGR.out)
        clear hat htw hxl HGR hil hge hae
        generalize fs.getD t 0 = x at *
        go_wp2_with fail
        refine HFX.out.mono ?_
        rintro e w' ⟨rfl, rfl⟩
        go_wp2
        refine ⟨⟨t + 1, hlt, by go_num, HG2, HK⟩, by simp [intOf]; omega⟩
      | some k =>
        have hk := (atH_some.1 hat).1
        rw [place_some hat] at HFX
        dsimp only at HFX
        have HCP := Lib.hid (pcopied_any HGR.out hk)
        obtain ⟨_, _, _, _, hcu⟩ := HGR.out.con
        have hv2 : visitH l o (fs.take (t + 1)) = addN (visitH l o (fs.take t)) (some k) := by rw [take_succ_getD htw, visit_snoc, hat]
        have hc2 : cpyH l o (sp.set i ⟨kd, relW l o fs t⟩) (fs.take (t + 1)) = cpyN l (visitH l o (fs.take t)) (cpyH l o (sp.set i ⟨kd, relW l o fs t⟩) (fs.take t)) k := by rw [take_succ_getD htw, cpy_some hat]
        have hrl : relocH l (visitH l o (fs.take (t + 1))) (fs.getD t 0) = 4 * adrO l (addN (visitH l o (fs.take t)) (some k)) ((addN (visitH l o (fs.take t)) (some k)).idxOf k) := by
          rw [reloc_some hat, hv2]
        have hrs := relW_step (l := l) (o := o) htw
        rw [hrl] at hrs
        rw [← hv2, ← hc2] at HCP
        rw [← hv2] at hrs
        obtain ⟨z, hz⟩ : ∃ z, z = adrO l (visitH l o (fs.take (t + 1))) ((visitH l o (fs.take (t + 1))).idxOf k) := ⟨_, rfl⟩
        rw [← hz] at HCP hrs
        have HZ := Lib.hid (fun (w2 : World) (hg : GcM w2 N hb cap g c l (visitH l o (fs.take (t + 1))) (cpyH l o (sp.set i ⟨kd, relW l o fs t⟩) (fs.take (t + 1)))) => show 1 ≤ z ∧ z ≤ 1 + usedH l by
          rw [hz]
          obtain ⟨q1, q2, _⟩ := hg.con
          exact adrO_le q1 q2 (by rw [hv2]; exact mem_addN_self _ _))
        have HFD := Lib.hid (fun (w2 : World) (hg : GcM w2 N hb cap g c l (visitH l o (fs.take (t + 1))) (cpyH l o (sp.set i ⟨kd, relW l o fs t⟩) (fs.take (t + 1)))) => show
            (∃ u : Nat, w2.cell? ⟨g, oo + t, none⟩ = some (.int .u64 u)) ∧ w2.frozen? ⟨g, oo + t, none⟩ = false ∧ (4 * z < 18446744073709551616 → GcM (w2.setCell ⟨g, oo + t, none⟩ (.int .u64 ((4 * z : Nat) : Int))) N hb cap g c l (visitH l o (fs.take (t + 1))) (cpyH l o (sp.set i ⟨kd, relW l o fs (t + 1)⟩) (fs.take (t + 1)))) by
          have hge2 : (cpyH l o (sp.set i ⟨kd, relW l o fs t⟩) (fs.take (t + 1))).getD i ob0 = ⟨kd, relW l o fs t⟩ := by rw [cpy_get l o _ _ hil, getO_set_eq HI.out]
          have hae2 : adrH (cpyH l o (sp.set i ⟨kd, relW l o fs t⟩) (fs.take (t + 1))) i = oo := by rw [cpy_adr l o _ _ hil]; exact HA.out _ (relW_len l o fs t)
          have hF := hg.field (i := i) (t := t) (Nat.lt_of_lt_of_le hil (cpy_len l o _ _)) (by rw [hge2]; show t < (relW l o fs t).length; rw [relW_len]; exact htw)
          rw [hge2, hae2] at hF
          refine ⟨⟨_, hF.1⟩, hF.2.1, fun hlt => ?_⟩
          have h3 := hF.2.2 (4 * z) hlt
          rw [cpy_set l o _ _ hil, List.set_set] at h3
          rw [hrs]
          exact h3)
        clear hat hk hv2 hc2 hrl hrs hz hxl htw hil hge hae
        generalize fs.getD t 0 = x at *
        generalize adrH l k - 1 = p at *
        go_wp2_with fail
        refine HFX.out.mono ?_
        rintro e w' ⟨rfl, rfl⟩
        go_wp2_with fail
        refine HCP.out.mono ?_
        rintro e w2 ⟨rfl, hg2, hk2⟩
        obtain ⟨hz1, hz2⟩ := HZ.out w2 hg2
        obtain ⟨y, rfl⟩ : ∃ y, z = y + 1 := ⟨z - 1, by omega⟩
        rw [show y + 1 - 1 = y by omega]
        obtain ⟨⟨u, e2⟩, f2, h3⟩ := HFD.out w2 hg2
        have HG3 := Lib.hid (h3 (by omega))
        have HK3 := Lib.hid (show Ked N w (w2.setCell ⟨g, oo + t, none⟩ (.int .u64 ((4 * (y + 1) : Nat) : Int))) from (HK.out.trans hk2).set (p := ⟨g, oo + t, none⟩) (fun _ hN => by
          obtain ⟨_, _, _, _, _, _, _, hC⟩ := hg2
          exact (hC.mem.out _ hN).2.2.2.2.1 rfl) _)
        have HWA := Lib.hid (pwordat_any y (by omega))
        clear hg2 hk2 hz1 hz2 h3 HZ HCP HGR HK HFD
        generalize 4 * (y + 1) = zz at *
        go_wp2_with fail
        refine (HWA.out w2).mono ?_
        rintro e w3 ⟨rfl, rfl⟩
        go_wp2
        refine ⟨⟨t + 1, hlt, by go_num, HG3, HK3⟩, by simp [intOf]; omega⟩
    · obtain rfl : t = n := by omega
      have HFIN := Lib.hid (show GcM wr N hb cap g c l (visitH l o fs) (cpyH l o (sp.set i ⟨kd, fs.map (relocH l (visitH l o fs))⟩) fs) by
        have h1 := HGR.out
        rw [HNL.out, List.take_length, relW_end] at h1
        exact h1)
      go_wp2
      refine bodyPost_end (v := .tuple #[]) ?_ ?_ ?_
      · simp [results, Try.results45, go_sem]
      · rfl
      · exact ⟨rfl, HFIN.out, HK.out⟩
end Go.Proofs.Ytfboejdddgedcaa

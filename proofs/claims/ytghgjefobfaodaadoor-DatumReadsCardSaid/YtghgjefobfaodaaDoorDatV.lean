import Derived.Test.YtghgjefobfaodaaDoorDatV0
namespace Go.Proofs.YtghgjefobfaodaaDoor
open Go.RowKit

set_option maxRecDepth 100000 in
set_option maxHeartbeats 4000000 in
theorem parse_any (N : Int) (v : Value) (l : List Tok) (w : World) (hl : l.length ≤ 300000) (hs : ∀ u ∈ l, smTok u) (hT : Toks w v l) (hc : InCap v) :
    Calls Tryd.prog 21 #[v, .int .i64 N] w (RVal w (allF N (l.length + 1) l [])) := by
  obtain ⟨i0, hi, hz0, hz1, hz2⟩ := info_parts Tryd.infoDat
  have hmf : ∀ (fn : Fn) (first cap : Array Value) (w : World), (Instr.makeFunc fn first cap).run Tryd.prog w = .ok (.func fn first cap) w := fun _ _ _ _ => rfl
  obtain ⟨res, hres⟩ : ∃ res, res = allF N (l.length + 1) l [] := ⟨_, rfl⟩
  rw [← hres]
  obtain ⟨va, vc, rfl⟩ : ∃ va vc, v = .slice va l.length vc := by
    rcases hT with ⟨rfl, a, c, rfl⟩ | ⟨b, off, cap, rfl, _⟩
    · exact ⟨_, _, rfl⟩
    · exact ⟨_, _, rfl⟩
  obtain ⟨w4, hw4⟩ : ∃ w4, w4 = (((w.alloc (.cells #[.slice none 0 0] 23)).alloc (.cells #[.int .i64 0] 3)).alloc (.cells #[.int .i64 0] 24)).alloc (.cells #[.slice va l.length vc, .int .i64 N] 67) := ⟨_, rfl⟩
  have hb4 : Below w.heap.size w w4 := by rw [hw4]; exact ((((Below.refl _ _).alloc (Nat.le_refl _) _).alloc (by simp) _).alloc (by simp <;> omega) _).alloc (by simp <;> omega) _
  have hz4 : w4.heap.size = w.heap.size + 4 := by rw [hw4]; simp
  have h0 : w4.heap[w.heap.size]? = some (.cells #[.slice none 0 0] 23 (0, 0)) := by
    rw [hw4, Below.heap_alloc _ _ _ (by simp <;> omega), Below.heap_alloc _ _ _ (by simp <;> omega), Below.heap_alloc _ _ _ (by simp)]
    exact heap_alloc_new w _
  have h1 : w4.heap[w.heap.size + 1]? = some (.cells #[.int .i64 0] 3 (0, 0)) := by
    rw [hw4, Below.heap_alloc _ _ _ (by simp <;> omega), Below.heap_alloc _ _ _ (by simp)]
    simpa using heap_alloc_new (w.alloc (.cells #[.slice none 0 0] 23)) (.cells #[.int .i64 0] 3)
  have h2 : w4.heap[w.heap.size + 2]? = some (.cells #[.int .i64 0] 24 (0, 0)) := by
    rw [hw4, Below.heap_alloc _ _ _ (by simp)]
    simpa using heap_alloc_new ((w.alloc (.cells #[.slice none 0 0] 23)).alloc (.cells #[.int .i64 0] 3)) (.cells #[.int .i64 0] 24)
  have h3 : w4.heap[w.heap.size + 3]? = some (.cells #[.slice va l.length vc, .int .i64 N] 67 (0, 0)) := by
    rw [hw4]
    simpa using heap_alloc_new (((w.alloc (.cells #[.slice none 0 0] 23)).alloc (.cells #[.int .i64 0] 3)).alloc (.cells #[.int .i64 0] 24)) (.cells #[.slice va l.length vc, .int .i64 N] 67)
  have hP : PAt w4 (w.heap.size + 3) N l := by
    refine ⟨_, h3, ?_⟩
    rcases hT with ⟨e, a, c, e'⟩ | ⟨b, off, cap, e, hb, hm, hcs⟩
    · exact .inl ⟨e, a, c, e'⟩
    · refine .inr ⟨b, off, cap, e, hc _ _ _ e, hm, by omega, fun j hj => ?_⟩
      obtain ⟨a0, a1, a2⟩ := hcs j hj
      exact ⟨(hb4.cell (p := ⟨b, _, none⟩) hb).trans a0, (hb4.cell (p := ⟨b, _, none⟩) hb).trans a1, (hb4.cell (p := ⟨b, _, none⟩) hb).trans a2⟩
  have HRES := Lib.hid hres
  have HB4 := Lib.hid hb4
  have H0 := Lib.hid h0
  have H1 := Lib.hid h1
  have H2 := Lib.hid h2
  have HP := Lib.hid hP
  have HS := Lib.hid hs
  clear hres hb4 hz4 h0 h1 h2 h3 hP hs hT hc
  go_enter_defers Tryd.func21, Tryd.ntmps21
  go_wp2_with fail
  rw [← hw4]
  clear hw4
  go_loopg [] (l.length + 1) (fun g wr => PRel N w res l.length g wr)
  case atStart =>
    exact ⟨l, [], [], .slice none 0 0, HRES.out, Nat.lt_succ_self _, by simp, HS.out, H0.out, H1.out, H2.out, World.ownsRow_nil _ _ _ _, RawsOf.none _ _, HP.out, HB4.out⟩
  case round =>
    obtain ⟨rest, acc, rs, dv, hres, hg, hL, hsr, h0, h1, h2, hown, hraw, hP, hB⟩ := hrel
    obtain ⟨da, dc, rfl⟩ := own_slice hown
    have hlen := hraw.1
    have lp := hP.lt
    have a0 : wr.cell? ⟨w.heap.size, 0, none⟩ = some (.slice da acc.length dc) := by rw [Lib.cell_of_heap h0]; rfl
    have a1 : wr.cell? ⟨w.heap.size + 1, 0, none⟩ = some (.int .i64 0) := by rw [Lib.cell_of_heap h1]; rfl
    have a2 : wr.cell? ⟨w.heap.size + 2, 0, none⟩ = some (.int .i64 0) := by rw [Lib.cell_of_heap h2]; rfl
    have f0 : wr.frozen? ⟨w.heap.size, 0, none⟩ = false := Lib.frozen_of_heap h0 0
    have f1 : wr.frozen? ⟨w.heap.size + 1, 0, none⟩ = false := Lib.frozen_of_heap h1 0
    have f2 : wr.frozen? ⟨w.heap.size + 2, 0, none⟩ = false := Lib.frozen_of_heap h2 0
    have HX0 := Lib.hid h0
    have HX1 := Lib.hid h1
    have HX2 := Lib.hid h2
    have HOWN := Lib.hid hown
    have HRAW := Lib.hid hraw
    have HBW := Lib.hid hB
    have HLEN := Lib.hid hlen
    have HSR := Lib.hid hsr
    have HPP := Lib.hid hP
    obtain ⟨pv, hp1, hp2⟩ := hP
    obtain ⟨g, rfl⟩ : ∃ g, gk = g + 1 := ⟨gk - 1, by omega⟩
    cases rest with
    | nil =>
      obtain ⟨pa, pc, rfl⟩ : ∃ a c, pv = .slice a 0 c := by
        rcases hp2 with ⟨_, a, c, e⟩ | ⟨b, off, cap, e, _⟩
        · exact ⟨a, c, e⟩
        · exact ⟨_, _, e⟩
      have p0 : wr.cell? ⟨w.heap.size + 3, 0, none⟩ = some (.slice pa 0 pc) := by rw [Lib.cell_of_heap hp1]; rfl
      have HR : Hid (res = .ok acc) := hres
      clear hres h0 h1 h2 hown hraw hB hlen hsr hp1 hp2
      go_wp2
      refine leaves_cons (f := 36) (args := #[.pointer (some ⟨w.heap.size, 0, none⟩), .pointer (some ⟨w.heap.size + 1, 0, none⟩), .pointer (some ⟨w.heap.size + 2, 0, none⟩)]) (by simp) (by simp [go_sem]) ?_
      refine (caught_idle _ _ _ _).mono ?_
      rintro e u' w'' ⟨rfl, rfl, rfl⟩
      obtain ⟨W, hW⟩ : ∃ W, W = ((wr.setCell ⟨w.heap.size, 0, none⟩ (.slice da acc.length dc)).setCell ⟨w.heap.size + 1, 0, none⟩ (.int .i64 0)).setCell ⟨w.heap.size + 1 + 1, 0, none⟩ (.int .i64 0) := ⟨_, rfl⟩
      have hall := three_heap (x' := .slice da acc.length dc) (y' := .int .i64 0) (z' := .int .i64 0) HX0.out HX1.out HX2.out (by omega) (by omega)
      rw [← hW]
      have hall : W.cell? ⟨w.heap.size, 0, none⟩ = some (.slice da acc.length dc) ∧ W.cell? ⟨w.heap.size + 1, 0, none⟩ = some (.int .i64 0) ∧ W.cell? ⟨w.heap.size + 1 + 1, 0, none⟩ = some (.int .i64 0) ∧ Below w.heap.size wr W ∧ ∀ k, k ≠ w.heap.size → k ≠ w.heap.size + 1 → k ≠ w.heap.size + 1 + 1 → W.heap[k]? = wr.heap[k]? := by rw [hW]; exact hall
      obtain ⟨r1, r2, r3, r4, r5⟩ := hall
      clear hW
      refine ⟨.tuple #[.slice da acc.length dc, .int .i64 0, .int .i64 0], by simp [results, Tryd.results21, go_sem, r1, r2, r3], ?_⟩
      rw [HR.out]
      refine ⟨⟨_, rfl, ?_⟩, HBW.out.trans r4⟩
      have hzz := r4.size
      have hownW : W.ownsRow (w.heap.size + 4) 30 3 (.slice da acc.length dc) acc.length (rawsCells rs) := own_block HOWN.out fun g' hg' => by
        have := (HOWN.out.lt g' hg').1
        exact r5 g' (by omega) (by omega) (by omega)
      simp only [List.length_nil, Nat.add_zero] at hL
      refine SliceOf.of_own (rs := rs) (B := w.heap.size + 4) (e := 30) (by rw [HLEN.out]; exact hownW) (by unfold maxLen; omega) (fun g' hg' => ?_) (HRAW.out.mono (fun b hb => ⟨by omega, by have := hb.2.1; omega⟩) (fun b o hb => World.cell?_of_block (r5 b (by omega) (by omega) (by omega))))
      have := HOWN.out.lt g' hg'
      exact ⟨by omega, by omega⟩
    | cons t r =>
      have hpl := HPP.out
      rcases hp2 with ⟨e, _⟩ | ⟨pb, poff, pcap, rfl, hpc, hpm, hpb, hpt⟩
      · cases e
      simp only [List.length_cons] at hg hL hpc hpm
      have p0 : wr.cell? ⟨w.heap.size + 3, 0, none⟩ = some (.slice (some ⟨pb, poff, none⟩) (r.length + 1) pcap) := by rw [Lib.cell_of_heap hp1]; rfl
      have hN := next_some (w.heap.size + 3) N t r wr.drew (hpl.behind (KeepP.drew (w.heap.size + 4) wr) (by omega))
      have hst : smTok t := hsr t (by simp)
      have hsr' : ∀ u ∈ r, smTok u := fun u hu => hsr u (by simp [hu])
      have e : allF N (g + 1) (t :: r) acc = match datumF N (2 * r.length + 1) t r 0 with
        | .ok d r' => allF N g r' (acc ++ [d])
        | .bad a c => .err a c := rfl
      rw [e] at hres
      have hlt0 : (0 : Int) < (r.length : Int) + 1 := by omega
      have HN := Lib.hid hN
      cases hx : datumF N (2 * r.length + 1) t r 0 with
      | bad a c =>
        rw [hx] at hres
        have HR : Hid (res = .err a c) := hres
        have HD : Hid (∀ w', PAt w' (w.heap.size + 3) N r → Calls Tryd.prog 37 #[.pointer (some ⟨w.heap.size + 3, 0, none⟩), .agg #[.int .i64 t.kind, .string t.text, .int .i64 t.pos], .int .i64 (0 : Nat)] w' (fun e w'' => e = .panicked [{ v := .iface 65 (.agg #[.int .i64 a, .int .i64 c]), recovered := false }] ∧ KeepP (w.heap.size + 3) w' w'')) := by
          show ∀ w', _
          intro w' h
          have := datum_all N _ t r 0 _ w' (Nat.le_refl _) (by omega) (by omega) hst hsr' h
          rw [hx] at this
          exact this
        have HNX : Hid (∀ w', PAt w' (w.heap.size + 3) N (t :: r) → _) := Lib.hid fun w' h => next_some (w.heap.size + 3) N t r w' h
        have HEND : Hid (∀ w6 : World, KeepP (w.heap.size + 3) wr w6 → Leaves Tryd.prog Tryd.f21 (#[Value.slice va l.length vc, Value.int IntKind.i64 N, undef, undef, Value.pointer (some { block := w.heap.size, off := 0 }), Value.pointer (some { block := w.heap.size + 1, off := 0 }), Value.pointer (some { block := w.heap.size + 1 + 1, off := 0 })]) (RVal w res) [{ target := Target.fn (Fn.func 36) #[Value.pointer (some { block := w.heap.size, off := 0 }), Value.pointer (some { block := w.heap.size + 1, off := 0 }), Value.pointer (some { block := w.heap.size + 1 + 1, off := 0 })], args := #[] }] (.panicking [{ v := .iface 65 (.agg #[.int .i64 a, .int .i64 c]), recovered := false }]) w6) := by
          show ∀ w6 : World, _
          intro w6 hk
          refine leaves_cons (f := 36) (args := #[.pointer (some ⟨w.heap.size, 0, none⟩), .pointer (some ⟨w.heap.size + 1, 0, none⟩), .pointer (some ⟨w.heap.size + 1 + 1, 0, none⟩)]) (by simp) (by simp [go_sem]) ?_
          refine (caught w.heap.size (w.heap.size + 1) (w.heap.size + 1 + 1) _ _ _ a c w6 ((hk.block _ (by omega) (by omega)).trans HX0.out) ((hk.block _ (by omega) (by omega)).trans HX1.out) ((hk.block _ (by omega) (by omega)).trans HX2.out) (by omega) (by omega)).mono ?_
          rintro e u' w9 ⟨rfl, rfl, g0, g1, g2, hb⟩
          have c0 : w9.cell? ⟨w.heap.size, 0, none⟩ = some (.slice none 0 0) := by rw [Lib.cell_of_heap g0]; rfl
          have c1 : w9.cell? ⟨w.heap.size + 1, 0, none⟩ = some (.int .i64 a) := by rw [Lib.cell_of_heap g1]; rfl
          have c2 : w9.cell? ⟨w.heap.size + 1 + 1, 0, none⟩ = some (.int .i64 c) := by rw [Lib.cell_of_heap g2]; rfl
          refine ⟨.tuple #[.slice none 0 0, .int .i64 a, .int .i64 c], by simp [results, Tryd.results21, go_sem, c0, c1, c2], ?_⟩
          rw [HR.out]
          exact ⟨rfl, (HBW.out.trans (hk.below (by omega) (by omega))).trans hb⟩
        clear hres h0 h1 h2 hown hraw hB hlen hsr hp1 hpt hN hst hsr' hx hpl e
        have w00 : w.heap.size < wr.heap.size := by omega
        have v00 : ¬ w.heap.size = wr.heap.size := by omega
        go_wp2
        refine wp_region_held_drew (S := fun w' => w'.cell? ⟨w.heap.size, 0, none⟩ = some (.slice da acc.length dc)) (by kernel_rfl) a0 (fun hHeld => ?_)
        refine wpAnyH_take (i := 0) (oi := _) (v := .slice da acc.length dc) rfl (by kernel_rfl) (by kernel_rfl) (by kernel_rfl) (fun c a w h => door_put 16 _ (by omega) h) (Or.inl ⟨by rfl, ?_⟩) (by assumption) ?_
        · intro w' hSw
          go_simp
        refine wpAnyH_take (i := 3) (oi := _) (v := .int .i64 acc.length) rfl (by kernel_rfl) (by kernel_rfl) (by kernel_rfl) (fun c a w h => door_put 19 _ (by omega) h) (Or.inl ⟨by rfl, ?_⟩) (by assumption) ?_
        · intro w' hSw
          go_simp
        refine wpAnyH_ready (rs := [1, 4]) (by kernel_rfl) (by simp) ?_
        refine AllReadyH.cons rfl (fun K hK => ?_) ?_
        · go_simp
          go_at_call 38
          refine (HNX.out _ (HPP.out.low (B := w.heap.size + 4) (Below.refl _ _).drew (by omega))).mono ?_
          rintro e w5 ⟨rfl, hP5, hk5⟩
          have hk5' : KeepP (w.heap.size + 3) wr w5 := (KeepP.drew _ _).trans hk5
          have hl5 := hk5'.size
          have e50 : w5.cell? ⟨w.heap.size, 0, none⟩ = some (.slice da acc.length dc) := (hk5'.cell (k := w.heap.size) (by omega) (by omega)).trans a0
          refine hK.out _ _ e50 (fun hHeld5 => ?_)
          clear hK K
          refine wpAnyH_ready (rs := [2, 4]) (by kernel_rfl) (by simp) ?_
          refine AllReadyH.cons rfl (fun K hK => ?_) ?_
          · go_simp
            go_at_call 37
            refine (HD.out _ hP5).mono ?_
            rintro e w6 ⟨rfl, hk6⟩
            exact leaves_congr (by simp [results, Tryd.results21]) _ _ _ (HEND.out w6 (hk5'.trans hk6))
          refine AllReadyH.cons rfl (fun K hK => ?_) AllReadyH.nil
          go_simp
          have hlt5 : w.heap.size < w5.heap.size := by omega
          refine hK.out _ _ ((World.cell?_alloc_past _ _ _ hlt5).trans e50) (fun hHeld6 => ?_)
          clear hK K
          refine wpAnyH_ready (rs := [2]) (by kernel_rfl) (by simp) ?_
          refine AllReadyH.cons rfl (fun K hK => ?_) AllReadyH.nil
          go_simp
          go_at_call 37
          refine (HD.out _ (hP5.low (B := w.heap.size + 4) ((Below.refl _ _).alloc (by omega) _) (by omega))).mono ?_
          rintro e w6 ⟨rfl, hk6⟩
          exact leaves_congr (by simp [results, Tryd.results21]) _ _ _ (HEND.out w6 ((hk5'.trans (KeepP.under _ ((Below.refl _ _).alloc (Nat.le_refl _) _))).trans hk6))
        refine AllReadyH.cons rfl (fun K hK => ?_) AllReadyH.nil
        go_simp
        refine hK.out _ _ ((World.cell?_alloc_past _ _ _ w00).trans a0) (fun hHeld6 => ?_)
        clear hK K
        refine wpAnyH_ready (rs := [1]) (by kernel_rfl) (by simp) ?_
        refine AllReadyH.cons rfl (fun K hK => ?_) AllReadyH.nil
        go_simp
        go_at_call 38
        refine (HNX.out _ (HPP.out.low (B := w.heap.size + 4) ((Below.refl _ _).alloc (by omega) _).drew (by omega))).mono ?_
        rintro e w5 ⟨rfl, hP5, hk5⟩
        have hk5' : KeepP (w.heap.size + 3) wr w5 := ((KeepP.under _ ((Below.refl _ _).alloc (Nat.le_refl _) _)).trans (KeepP.drew _ _)).trans hk5
        have hl5 := hk5'.size
        have e50 : w5.cell? ⟨w.heap.size, 0, none⟩ = some (.slice da acc.length dc) := (hk5'.cell (k := w.heap.size) (by omega) (by omega)).trans a0
        refine hK.out _ _ e50 (fun hHeld5 => ?_)
        clear hK K
        refine wpAnyH_ready (rs := [2]) (by kernel_rfl) (by simp) ?_
        refine AllReadyH.cons rfl (fun K hK => ?_) AllReadyH.nil
        go_simp
        go_at_call 37
        refine (HD.out _ hP5).mono ?_
        rintro e w6 ⟨rfl, hk6⟩
        exact leaves_congr (by simp [results, Tryd.results21]) _ _ _ (HEND.out w6 (hk5'.trans hk6))
      | ok d q =>
        rw [hx] at hres
        have HR : Hid (res = allF N g q (acc ++ [d])) := hres
        have HST := Lib.hid hst
        have HSR' := Lib.hid hsr'
        have hal : acc.length ≤ 300000 := by omega
        have HD : Hid (∀ w', PAt w' (w.heap.size + 3) N r → Calls Tryd.prog 37 #[.pointer (some ⟨w.heap.size + 3, 0, none⟩), .agg #[.int .i64 t.kind, .string t.text, .int .i64 t.pos], .int .i64 (0 : Nat)] w' (DVal (w.heap.size + 3) N w' (.ok d q))) := by
          show ∀ w', _
          intro w' h
          rw [← hx]
          exact datum_all N _ t r 0 _ w' (Nat.le_refl _) (by omega) (by omega) hst hsr' h
        obtain ⟨kq, hkq⟩ := datumF_rest N _ t r 0 d q hx
        have hql : q.length ≤ r.length := by rw [hkq, List.length_drop]; omega
        have hqs : ∀ u ∈ q, smTok u := fun u hu => hsr' u (List.mem_of_mem_drop (hkq ▸ hu))
        have HQL := Lib.hid hql
        have HQS := Lib.hid hqs
        have HNX : Hid (∀ w', PAt w' (w.heap.size + 3) N (t :: r) → _) := Lib.hid fun w' h => next_some (w.heap.size + 3) N t r w' h
        clear hres h0 h1 h2 hown hraw hB hlen hsr hp1 hpt hN hst hsr' hx hkq hql hqs hpl e
        have w00 : w.heap.size < wr.heap.size := by omega
        have v00 : ¬ w.heap.size = wr.heap.size := by omega
        go_wp2
        refine wp_region_noPanic ?_
        go_region_law (first
          | (refine step_append_lies _ (by rfl) _ _ _ (by rfl) (w.heap.size + 4) 30 i0 _ 3 48 Tryd.underlying23 hi hz0 hz1 hz2 rfl (by omega) (.slice da acc.length dc) acc.length (rawsCells rs) (by rfl) (hown6.alloc _) ⟨w6.heap.size, 0, none⟩ 1 1 [.int .i64 0, .string ⟨#[]⟩, .slice none 0 0] (by rfl) (by rfl) (World.news_of_block (cs := #[.int .i64 0, .string ⟨#[]⟩, .slice none 0 0]) (t := 30) (fr := (0, 0)) (heap_alloc_new w6 _)) (by simp [Value.oneCell']) (by omega) (by unfold maxLen; omega) (by omega) (by first | omega | (simp; omega)) (w6.heap.size + 1) (by first | rfl | simp) ?_
             intro gg cap' w7 hown7 hgrow hat hlt'
             have hgg := (hown7.lt gg rfl).1
             have z0 := (elem_cells hown7 HLEN.out).1
             have z1 := (elem_cells hown7 HLEN.out).2.1
             have z2 := (elem_cells hown7 HLEN.out).2.2
             have y0 := hown7.frozenAt (acc.length * 3)
             have y1 := hown7.frozenAt (acc.length * 3 + 1)
             have y2 := hown7.frozenAt (acc.length * 3 + 2)
             have hdr : (Value.slice da acc.length dc).ownBlock ≠ some w.heap.size := fun h => by have := (hown6.lt _ h).1; omega
             have hl7 := hgrow.size
             have HOW7 := Lib.hid hown7
             have HGR := Lib.hid hgrow
             have HAT := Lib.hid hat
             have ng1 : ¬ gg = w.heap.size := by omega
             have ng2 : ¬ w.heap.size = gg := by omega
             have HL67 : Hid (∀ k, k < w6.heap.size → (Value.slice da acc.length dc).ownBlock ≠ some k → w7.heap[k]? = w6.heap[k]?) := Lib.hid fun k hk hr => by
               refine (hgrow.block k ?_ (Ne.symm hr)).trans ?_
               · first | omega | (simp; omega)
               · first | rfl | exact Below.heap_alloc _ _ _ (by omega)
             have HLB : Hid (Below (w.heap.size + 4) w6 w7) := Lib.hid (by
               first
               | exact (Below.refl _ _).grown hgrow (by omega) (fun k hk => (hown6.lt k hk).1)
               | exact ((Below.refl _ _).alloc (by omega) _).grown hgrow (by simp; omega) (fun k hk => (hown6.lt k hk).1))
             have HLK : Hid (∀ k, k < wr.heap.size → k ≠ w.heap.size + 3 → (Value.slice da acc.length dc).ownBlock ≠ some k → w7.heap[k]? = wr.heap[k]?) := Lib.hid fun k hk hkp hr =>
               (HL67.out k (by omega) hr).trans ((HK6'.out.block k (by omega) hkp).trans (HK5'.out.block k hk hkp))
             have HAT2 : Hid (∀ b, b < w6.heap.size → (Value.slice da acc.length dc).ownBlock ≠ some b → gg ≠ b) := Lib.hid fun b hb hr h => by
               rcases hat with h' | h'
               · exact hr (h ▸ h')
               · omega
             have e07 : w7.cell? ⟨w.heap.size, 0, none⟩ = some (.slice da acc.length dc) := (World.cell?_of_block (w := wr) (a := ⟨_, _, _⟩) (HLK.out w.heap.size (by omega) (by omega) hdr)).trans a0
             have f07 : w7.frozen? ⟨w.heap.size, 0, none⟩ = false := (World.frozen?_of_block (w := wr) (a := ⟨_, _, _⟩) (HLK.out w.heap.size (by omega) (by omega) hdr)).trans f0
             have i0' : (0 : Int) ≤ (acc.length : Int) := by omega
             have i1' : (acc.length : Int) < (acc.length : Int) + 1 := by omega
             clear hown7 hgrow hat)
          | (refine step_append_lies _ (by rfl) _ _ _ (by rfl) (w.heap.size + 4) 30 i0 _ 3 48 Tryd.underlying23 hi hz0 hz1 hz2 rfl (by omega) (.slice da acc.length dc) acc.length (rawsCells rs) (by rfl) hown6 ⟨w5.heap.size, 0, none⟩ 1 1 [.int .i64 0, .string ⟨#[]⟩, .slice none 0 0] (by rfl) (by rfl) (World.news_of_block (cs := #[.int .i64 0, .string ⟨#[]⟩, .slice none 0 0]) (t := 30) (fr := (0, 0)) ((HK6.out.block w5.heap.size (by simp) (by omega)).trans (heap_alloc_new w5 _))) (by simp [Value.oneCell']) (by omega) (by unfold maxLen; omega) (by omega) (by first | omega | (simp; omega)) (w6.heap.size) (by first | rfl | simp) ?_
             intro gg cap' w7 hown7 hgrow hat hlt'
             have hgg := (hown7.lt gg rfl).1
             have z0 := (elem_cells hown7 HLEN.out).1
             have z1 := (elem_cells hown7 HLEN.out).2.1
             have z2 := (elem_cells hown7 HLEN.out).2.2
             have y0 := hown7.frozenAt (acc.length * 3)
             have y1 := hown7.frozenAt (acc.length * 3 + 1)
             have y2 := hown7.frozenAt (acc.length * 3 + 2)
             have hdr : (Value.slice da acc.length dc).ownBlock ≠ some w.heap.size := fun h => by have := (hown6.lt _ h).1; omega
             have hl7 := hgrow.size
             have HOW7 := Lib.hid hown7
             have HGR := Lib.hid hgrow
             have HAT := Lib.hid hat
             have ng1 : ¬ gg = w.heap.size := by omega
             have ng2 : ¬ w.heap.size = gg := by omega
             have HL67 : Hid (∀ k, k < w6.heap.size → (Value.slice da acc.length dc).ownBlock ≠ some k → w7.heap[k]? = w6.heap[k]?) := Lib.hid fun k hk hr => by
               refine (hgrow.block k ?_ (Ne.symm hr)).trans ?_
               · first | omega | (simp; omega)
               · first | rfl | exact Below.heap_alloc _ _ _ (by omega)
             have HLB : Hid (Below (w.heap.size + 4) w6 w7) := Lib.hid (by
               first
               | exact (Below.refl _ _).grown hgrow (by omega) (fun k hk => (hown6.lt k hk).1)
               | exact ((Below.refl _ _).alloc (by omega) _).grown hgrow (by simp; omega) (fun k hk => (hown6.lt k hk).1))
             have HLK : Hid (∀ k, k < wr.heap.size → k ≠ w.heap.size + 3 → (Value.slice da acc.length dc).ownBlock ≠ some k → w7.heap[k]? = wr.heap[k]?) := Lib.hid fun k hk hkp hr =>
               (HL67.out k (by omega) hr).trans ((HK6'.out.block k (by omega) hkp).trans (HK5'.out.block k hk hkp))
             have HAT2 : Hid (∀ b, b < w6.heap.size → (Value.slice da acc.length dc).ownBlock ≠ some b → gg ≠ b) := Lib.hid fun b hb hr h => by
               rcases hat with h' | h'
               · exact hr (h ▸ h')
               · omega
             have e07 : w7.cell? ⟨w.heap.size, 0, none⟩ = some (.slice da acc.length dc) := (World.cell?_of_block (w := wr) (a := ⟨_, _, _⟩) (HLK.out w.heap.size (by omega) (by omega) hdr)).trans a0
             have f07 : w7.frozen? ⟨w.heap.size, 0, none⟩ = false := (World.frozen?_of_block (w := wr) (a := ⟨_, _, _⟩) (HLK.out w.heap.size (by omega) (by omega) hdr)).trans f0
             have i0' : (0 : Int) ≤ (acc.length : Int) := by omega
             have i1' : (acc.length : Int) < (acc.length : Int) + 1 := by omega
             clear hown7 hgrow hat)
          | (go_simp
             go_at_call 38
             refine (HNX.out _ ?hp).mono ?_
             case hp => exact HPP.out.low (B := w.heap.size + 4) (by first | exact (Below.refl _ _).drew | exact ((Below.refl _ _).alloc (by omega) _).drew) (by omega)
             rintro e w5 ⟨rfl, hP5, hk5⟩
             have hk5' : KeepP (w.heap.size + 3) wr w5 := KeepP.trans (by first | exact KeepP.drew _ _ | exact (KeepP.under _ ((Below.refl _ _).alloc (Nat.le_refl _) _)).trans (KeepP.drew _ _)) hk5
             have hl5 := hk5'.size
             have e50 : w5.cell? ⟨w.heap.size, 0, none⟩ = some (.slice da acc.length dc) := (hk5'.cell (k := w.heap.size) (by omega) (by omega)).trans a0
             have w50 : w.heap.size < w5.heap.size := by omega
             have v50 : ¬ w.heap.size = w5.heap.size := by omega
             have HP5 := Lib.hid hP5
             have HK5 := Lib.hid hk5
             have HK5' := Lib.hid hk5'
             clear hP5 hk5 hk5')
          | (go_simp
             go_at_call 37
             refine (HD.out _ ?hp).mono ?_
             case hp => exact HP5.out.low (B := w.heap.size + 4) (by first | exact Below.refl _ _ | exact (Below.refl _ _).alloc (by omega) _) (by omega)
             rintro e w6 ⟨sv6, rfl, hs6, hp6, hk6⟩
             have hk6' : KeepP (w.heap.size + 3) w5 w6 := KeepP.trans (by first | exact KeepP.refl _ _ | exact (KeepP.under _ ((Below.refl _ _).alloc (Nat.le_refl _) _))) hk6
             have hl6 := hk6'.size
             have e60 : w6.cell? ⟨w.heap.size, 0, none⟩ = some (.slice da acc.length dc) := (hk6'.cell (k := w.heap.size) (by omega) (by omega)).trans e50
             have w60 : w.heap.size < w6.heap.size := by omega
             have v60 : ¬ w.heap.size = w6.heap.size := by omega
             have hs6 : SliceOf w6 (fun b => w5.heap.size ≤ b ∧ b < w6.heap.size) sv6 d.list := hs6.mono (fun b hb => ⟨by have := hb.1; first | omega | (simp at this; omega), hb.2⟩) (fun _ _ _ => rfl)
             obtain ⟨qa, qc, hsv6⟩ := hs6.val
             obtain ⟨n6, hn6⟩ : ∃ n, n = d.list.length := ⟨_, rfl⟩
             rw [← hn6] at hsv6
             subst hsv6
             have hown6 : w6.ownsRow (w.heap.size + 4) 30 3 (.slice da acc.length dc) acc.length (rawsCells rs) := own_block HOWN.out fun g' hg' => by
               have := HOWN.out.lt g' hg'
               exact (hk6'.block g' (by omega) (by omega)).trans (HK5'.out.block g' this.2 (by omega))
             have HS6 := Lib.hid hs6
             have HP6 := Lib.hid hp6
             have HK6 := Lib.hid hk6
             have HK6' := Lib.hid hk6'
             have HN6 := Lib.hid hn6
             clear hs6 hp6 hk6 hk6' hn6)
          | (refine step_append_lies _ (by rfl) _ _ _ (by rfl) (w.heap.size + 4) 30 i0 _ 3 48 Tryd.underlying23 hi hz0 hz1 hz2 rfl (by omega) (.slice da acc.length dc) acc.length (rawsCells rs) (by rfl) hown6 ⟨wr.heap.size, 0, none⟩ 1 1 [.int .i64 0, .string ⟨#[]⟩, .slice none 0 0] (by rfl) (by rfl) (World.news_of_block (cs := #[.int .i64 0, .string ⟨#[]⟩, .slice none 0 0]) (t := 30) (fr := (0, 0)) ((HK6.out.block wr.heap.size (by have := HK5.out.size; simp at this; omega) (by omega)).trans ((HK5.out.block wr.heap.size (by simp) (by omega)).trans (heap_alloc_new wr _)))) (by simp [Value.oneCell']) (by omega) (by unfold maxLen; omega) (by omega) (by first | omega | (simp; omega)) (w6.heap.size) (by first | rfl | simp) ?_
             intro gg cap' w7 hown7 hgrow hat hlt'
             have hgg := (hown7.lt gg rfl).1
             have z0 := (elem_cells hown7 HLEN.out).1
             have z1 := (elem_cells hown7 HLEN.out).2.1
             have z2 := (elem_cells hown7 HLEN.out).2.2
             have y0 := hown7.frozenAt (acc.length * 3)
             have y1 := hown7.frozenAt (acc.length * 3 + 1)
             have y2 := hown7.frozenAt (acc.length * 3 + 2)
             have hdr : (Value.slice da acc.length dc).ownBlock ≠ some w.heap.size := fun h => by have := (hown6.lt _ h).1; omega
             have hl7 := hgrow.size
             have HOW7 := Lib.hid hown7
             have HGR := Lib.hid hgrow
             have HAT := Lib.hid hat
             have ng1 : ¬ gg = w.heap.size := by omega
             have ng2 : ¬ w.heap.size = gg := by omega
             have HL67 : Hid (∀ k, k < w6.heap.size → (Value.slice da acc.length dc).ownBlock ≠ some k → w7.heap[k]? = w6.heap[k]?) := Lib.hid fun k hk hr => by
               refine (hgrow.block k ?_ (Ne.symm hr)).trans ?_
               · first | omega | (simp; omega)
               · first | rfl | exact Below.heap_alloc _ _ _ (by omega)
             have HLB : Hid (Below (w.heap.size + 4) w6 w7) := Lib.hid (by
               first
               | exact (Below.refl _ _).grown hgrow (by omega) (fun k hk => (hown6.lt k hk).1)
               | exact ((Below.refl _ _).alloc (by omega) _).grown hgrow (by simp; omega) (fun k hk => (hown6.lt k hk).1))
             have HLK : Hid (∀ k, k < wr.heap.size → k ≠ w.heap.size + 3 → (Value.slice da acc.length dc).ownBlock ≠ some k → w7.heap[k]? = wr.heap[k]?) := Lib.hid fun k hk hkp hr =>
               (HL67.out k (by omega) hr).trans ((HK6'.out.block k (by omega) hkp).trans (HK5'.out.block k hk hkp))
             have HAT2 : Hid (∀ b, b < w6.heap.size → (Value.slice da acc.length dc).ownBlock ≠ some b → gg ≠ b) := Lib.hid fun b hb hr h => by
               rcases hat with h' | h'
               · exact hr (h ▸ h')
               · omega
             have e07 : w7.cell? ⟨w.heap.size, 0, none⟩ = some (.slice da acc.length dc) := (World.cell?_of_block (w := wr) (a := ⟨_, _, _⟩) (HLK.out w.heap.size (by omega) (by omega) hdr)).trans a0
             have f07 : w7.frozen? ⟨w.heap.size, 0, none⟩ = false := (World.frozen?_of_block (w := wr) (a := ⟨_, _, _⟩) (HLK.out w.heap.size (by omega) (by omega) hdr)).trans f0
             have i0' : (0 : Int) ≤ (acc.length : Int) := by omega
             have i1' : (acc.length : Int) < (acc.length : Int) + 1 := by omega
             clear hown7 hgrow hat))
        all_goals refine NoPanic.normal ?_
        all_goals
          go_wp2
          have hdr : (Value.slice da acc.length dc).ownBlock ≠ some w.heap.size := fun h => by have := (HOWN.out.lt _ h).1; omega
          have h07 := (HLK.out w.heap.size (by omega) (by omega) hdr).trans HX0.out
          have hF : ∃ W : World, (W = (((w7.setCell ⟨gg, acc.length * 3, none⟩ (.int .i64 d.kind)).setCell ⟨gg, acc.length * 3 + 1, none⟩ (.string d.text)).setCell ⟨gg, acc.length * 3 + 2, none⟩ (.slice qa n6 qc)).setCell ⟨w.heap.size, 0, none⟩ (.slice (some ⟨gg, 0, none⟩) (acc.length + 1) cap')) ∧ W.heap[w.heap.size]? = some (.cells #[.slice (some ⟨gg, 0, none⟩) (acc.length + 1) cap'] 23 (0, 0)) ∧ W.ownsRow (w.heap.size + 4) 30 3 (.slice (some ⟨gg, 0, none⟩) (acc.length + 1) cap') (acc.length + 1) (rawsCells rs ++ [.int .i64 d.kind, .string d.text, .slice qa n6 qc]) ∧ (∀ k, k ≠ w.heap.size → k ≠ gg → W.heap[k]? = w7.heap[k]?) ∧ Below w.heap.size w7 W := ⟨_, rfl, stores_a h07 (by omega) HOW7.out HLEN.out⟩
          have hG : ∃ W : World, (W = (((w7.setCell ⟨w.heap.size, 0, none⟩ (.slice (some ⟨gg, 0, none⟩) (acc.length + 1) cap')).setCell ⟨gg, acc.length * 3, none⟩ (.int .i64 d.kind)).setCell ⟨gg, acc.length * 3 + 1, none⟩ (.string d.text)).setCell ⟨gg, acc.length * 3 + 2, none⟩ (.slice qa n6 qc)) ∧ W.heap[w.heap.size]? = some (.cells #[.slice (some ⟨gg, 0, none⟩) (acc.length + 1) cap'] 23 (0, 0)) ∧ W.ownsRow (w.heap.size + 4) 30 3 (.slice (some ⟨gg, 0, none⟩) (acc.length + 1) cap') (acc.length + 1) (rawsCells rs ++ [.int .i64 d.kind, .string d.text, .slice qa n6 qc]) ∧ (∀ k, k ≠ w.heap.size → k ≠ gg → W.heap[k]? = w7.heap[k]?) ∧ Below w.heap.size w7 W := ⟨_, rfl, stores_b h07 (by omega) HOW7.out HLEN.out⟩
          first
          | (obtain ⟨W, hWW, hW0, hWo, hWk, hWB⟩ := hF; rw [← hWW])
          | (obtain ⟨W, hWW, hW0, hWo, hWk, hWB⟩ := hG; rw [← hWW])
          clear hWW
          go_roundg g
          case measure => omega
          case rel => exact prel_next HR.out HQS.out HX0.out HX1.out HX2.out HOWN.out HRAW.out HBW.out HK5'.out HK6'.out HP6.out HS6.out HL67.out HLK.out HAT2.out HLB.out HOW7.out hW0 hWo hWk hWB (by have := HQL.out; omega) (by have := HQL.out; omega) (by omega)
end Go.Proofs.YtghgjefobfaodaaDoor

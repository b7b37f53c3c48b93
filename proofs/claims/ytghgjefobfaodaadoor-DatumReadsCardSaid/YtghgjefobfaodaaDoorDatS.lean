import Derived.Test.YtghgjefobfaodaaDoorDatR
import Derived.Deep.RegionLaw
import Derived.Deep.AppendLies
import Derived.Deep.LoopGhost
import Derived.Deep.RegionWith
namespace Go.Proofs.YtghgjefobfaodaaDoor
open Go.RowKit

def smTok (t : Tok) : Prop := okTok t ∧ t.text.size ≤ 300000
/-- what the parser's datum comes to -/
def DVal (p : Nat) (N : Int) (w : World) (out : POut) (e : Ending) (w' : World) : Prop :=
  match out with
  | .ok d r' => ∃ sv, e = .returned (.agg #[.int .i64 d.kind, .string d.text, sv]) ∧ SliceOf w' (fun b => w.heap.size ≤ b ∧ b < w'.heap.size) sv d.list ∧ PAt w' p N r' ∧ KeepP p w w'
  | .bad a c => e = misfit a c ∧ KeepP p w w'
def DatumOK (N : Int) (f : Nat) : Prop := ∀ (t : Tok) (r : List Tok) (ar p : Nat) (w : World), 2 * r.length + 1 ≤ f → r.length ≤ 300000 → ar ≤ 60 → smTok t → (∀ u ∈ r, smTok u) → PAt w p N r →
    Calls Tryd.prog 37 #[.pointer (some ⟨p, 0, none⟩), .agg #[.int .i64 t.kind, .string t.text, .int .i64 t.pos], .int .i64 ar] w (DVal p N w (datumF N f t r ar))
def listO (N : Int) (f : Nat) (r : List Tok) (ar : Nat) : POut := match r with | [] => .bad N 3 | t :: r' => listF N f t r' ar []
def ListOK (N : Int) (f : Nat) : Prop := ∀ (r : List Tok) (ar p : Nat) (w : World), 2 * r.length ≤ f → r.length ≤ 300000 → ar ≤ 60 → (∀ u ∈ r, smTok u) → PAt w p N r →
    Calls Tryd.prog 53 #[.pointer (some ⟨p, 0, none⟩), .int .i64 ar] w (DVal p N w (listO N f r ar))

set_option maxRecDepth 100000 in
set_option maxHeartbeats 4000000 in
theorem list_none (N : Int) (ar p : Nat) (w : World) (h : PAt w p N []) :
    Calls Tryd.prog 53 #[.pointer (some ⟨p, 0, none⟩), .int .i64 ar] w (DVal p N w (.bad N 3)) := by
  have HP := Lib.hid h
  clear h
  go_enter Tryd.func53, Tryd.ntmps53
  go_wp2_with fail
  refine (next_none p N _ (HP.out.under (((Below.refl _ _).alloc (Nat.le_refl _) _).alloc (by simp) _))).mono ?_
  rintro e w' ⟨rfl, hb⟩
  exact ⟨rfl, rfl, KeepP.under p ((((Below.refl _ _).alloc (Nat.le_refl _) _).alloc (by simp) _).trans (hb.mono (by simp; omega)))⟩

/-- the loop of list: what holds at a round's head -/
def LRel (N : Int) (p ar : Nat) (w : World) (res : POut) (L F : Nat) (g : Nat) (s : Value) (wr : World) : Prop :=
  ∃ (t : Tok) (rest : List Tok) (acc : List Dat) (rs : List Raw) (v : Value) (b6 : Nat), s = .pointer (some ⟨b6, 0, none⟩) ∧ res = listF N g t rest ar acc ∧ 2 * rest.length + 2 ≤ g ∧ g ≤ F ∧ acc.length + rest.length + 1 ≤ L ∧ smTok t ∧ (∀ u ∈ rest, smTok u) ∧
    wr.heap[b6]? = some (.cells #[.int .i64 t.kind, .string t.text, .int .i64 t.pos] 61 (0, 0)) ∧ w.heap.size + 2 ≤ b6 ∧
    wr.heap[w.heap.size]? = some (.cells #[.int .i64 0, .string ⟨#[]⟩, .slice none 0 0] 30 (0, 0)) ∧
    wr.heap[w.heap.size + 1]? = some (.cells #[.int .i64 5, .string ⟨#[]⟩, v] 30 (0, 0)) ∧
    wr.ownsRow (w.heap.size + 2) 30 3 v acc.length (rawsCells rs) ∧
    RawsOf wr (fun b => w.heap.size + 2 ≤ b ∧ b < wr.heap.size ∧ v.ownBlock ≠ some b ∧ b ≠ b6) rs acc ∧ PAt wr p N rest ∧ KeepP p w wr
theorem heap_of_lt {w : World} {k : Nat} {o : Obj} (h : w.heap[k]? = some o) : k < w.heap.size := by
  rcases Nat.lt_or_ge k w.heap.size with h' | h'
  · exact h'
  · rw [Array.getElem?_eq_none h'] at h; cases h
theorem own_slice {w : World} {B e size n : Nat} {v : Value} {xs : List Value} (h : w.ownsRow B e size v n xs) : ∃ a c, v = .slice a n c := by
  rcases h.2 with ⟨rfl, rfl⟩ | ⟨g, cap, cur, rfl, _⟩
  · exact ⟨_, _, rfl⟩
  · exact ⟨_, _, rfl⟩
/-- a row of the call's own keeps, whatever turned elsewhere -/
theorem own_block {w w' : World} {B e size n : Nat} {v : Value} {xs : List Value} (h : w.ownsRow B e size v n xs) (hb : ∀ g, v.ownBlock = some g → w'.heap[g]? = w.heap[g]?) : w'.ownsRow B e size v n xs := by
  refine ⟨h.1, ?_⟩
  rcases h.2 with h2 | ⟨g, cap, cur, rfl, hB, hg, r⟩
  · exact .inl h2
  · exact .inr ⟨g, cap, cur, rfl, hB, (hb g rfl).trans hg, r⟩

/-- a callee that panics, met as if it returned, too -/
theorem calls_or {P : Program} {f : FuncId} {args : Array Value} {w : World} {R : Ending → World → Prop} {ch : List PanicEntry} {T : World → Prop} (v : Value) (h : Calls P f args w fun e w' => e = .panicked ch ∧ T w')
    (hp : ∀ w', T w' → R (.panicked ch) w') (_ : ∀ w', Hid False → R (.returned v) w') : Calls P f args w R :=
  h.mono fun e w' ⟨he, ht⟩ => by subst he; exact hp _ ht

set_option maxRecDepth 100000 in
set_option maxHeartbeats 4000000 in
theorem list_some (N : Int) (f ar p : Nat) (t : Tok) (r : List Tok) (w : World) (ih : ∀ g, g < f → DatumOK N g) (hf : 2 * r.length + 2 ≤ f) (hr : r.length + 1 ≤ 300000) (har : ar ≤ 60) (hst : smTok t) (hsr : ∀ u ∈ r, smTok u) (h : PAt w p N (t :: r)) :
    Calls Tryd.prog 53 #[.pointer (some ⟨p, 0, none⟩), .int .i64 ar] w (DVal p N w (listF N f t r ar [])) := by
  obtain ⟨i0, hi, hz0, hz1, hz2⟩ := info_parts Tryd.infoDat
  have hpl := h.lt
  obtain ⟨res, hres⟩ : ∃ res, res = listF N f t r ar [] := ⟨_, rfl⟩
  rw [← hres]
  obtain ⟨w2, hw2⟩ : ∃ w2, w2 = (w.alloc (.cells #[.int .i64 0, .string ⟨#[]⟩, .slice none 0 0] 30)).alloc (.cells #[.int .i64 5, .string ⟨#[]⟩, .slice none 0 0] 30) := ⟨_, rfl⟩
  have hb2 : Below w.heap.size w w2 := by rw [hw2]; exact ((Below.refl _ _).alloc (Nat.le_refl _) _).alloc (by simp) _
  have hz : w2.heap.size = w.heap.size + 2 := by rw [hw2]; simp
  have h0 : w2.heap[w.heap.size]? = some (.cells #[.int .i64 0, .string ⟨#[]⟩, .slice none 0 0] 30 (0, 0)) := by
    rw [hw2, Below.heap_alloc _ _ _ (by simp)]; exact heap_alloc_new w _
  have h1 : w2.heap[w.heap.size + 1]? = some (.cells #[.int .i64 5, .string ⟨#[]⟩, .slice none 0 0] 30 (0, 0)) := by
    rw [hw2]; simpa using heap_alloc_new (w.alloc (.cells #[.int .i64 0, .string ⟨#[]⟩, .slice none 0 0] 30)) (.cells #[.int .i64 5, .string ⟨#[]⟩, .slice none 0 0] 30)
  have HN := Lib.hid (next_some p N t r w2 (h.under hb2))
  have HRES := Lib.hid hres
  have HB2 := Lib.hid hb2
  have HZ := Lib.hid hz
  have H0 := Lib.hid h0
  have H1 := Lib.hid h1
  have HIH := Lib.hid ih
  have HSR := Lib.hid hsr
  have HST := Lib.hid hst
  clear hres hb2 hz h0 h1 ih hsr hst h
  go_enter Tryd.func53, Tryd.ntmps53
  go_wp2_with fail
  rw [← hw2]
  clear hw2
  refine HN.out.mono ?_
  rintro e w3 ⟨rfl, hP3, hK3⟩
  have HP3 := Lib.hid hP3
  have HK3 := Lib.hid hK3
  clear hP3 hK3
  go_wp2
  go_loopg [6] f (fun g s wr => LRel N p ar w res (r.length + 1) f g s wr)
  case atStart =>
    have hz := HZ.out
    have hz3 := HK3.out.size
    have hbx : Below w3.heap.size w3 (w3.alloc (.cells #[.int .i64 t.kind, .string t.text, .int .i64 t.pos] 61)) := (Below.refl _ _).alloc (Nat.le_refl _) _
    refine ⟨t, r, [], [], .slice none 0 0, w3.heap.size, rfl, HRES.out, hf, Nat.le_refl _, by simp, HST.out, HSR.out, heap_alloc_new w3 _, by omega, ?_, ?_, World.ownsRow_nil _ _ _ _, RawsOf.none _ _, HP3.out.under hbx, ((KeepP.under p HB2.out).trans HK3.out).trans (KeepP.under p hbx)⟩
    · rw [hbx.block _ (by omega), HK3.out.block _ (by omega) (by omega)]; exact H0.out
    · rw [hbx.block _ (by omega), HK3.out.block _ (by omega) (by omega)]; exact H1.out
  case round =>
    obtain ⟨t, rest, acc, rs, v, b6, rfl, hres, hg, hgf, hL, hst, hsr, h6, hb6, h0, h1, hown, hraw, hP, hK⟩ := hrel
    obtain ⟨va, vc, rfl⟩ := own_slice hown
    have hlen := hraw.1
    have e60 : wr.cell? ⟨b6, 0, none⟩ = some (.int .i64 t.kind) := by rw [Lib.cell_of_heap h6]; rfl
    have e61 : wr.cell? ⟨b6, 1, none⟩ = some (.string t.text) := by rw [Lib.cell_of_heap h6]; rfl
    have e62 : wr.cell? ⟨b6, 2, none⟩ = some (.int .i64 t.pos) := by rw [Lib.cell_of_heap h6]; rfl
    have e10 : wr.cell? ⟨w.heap.size + 1, 0, none⟩ = some (.int .i64 5) := by rw [Lib.cell_of_heap h1]; rfl
    have e11 : wr.cell? ⟨w.heap.size + 1, 1, none⟩ = some (.string ⟨#[]⟩) := by rw [Lib.cell_of_heap h1]; rfl
    have e12 : wr.cell? ⟨w.heap.size + 1, 2, none⟩ = some (.slice va acc.length vc) := by rw [Lib.cell_of_heap h1]; rfl
    have e00 : wr.cell? ⟨w.heap.size, 0, none⟩ = some (.int .i64 0) := by rw [Lib.cell_of_heap h0]; rfl
    have e01 : wr.cell? ⟨w.heap.size, 1, none⟩ = some (.string ⟨#[]⟩) := by rw [Lib.cell_of_heap h0]; rfl
    have e02 : wr.cell? ⟨w.heap.size, 2, none⟩ = some (.slice none 0 0) := by rw [Lib.cell_of_heap h0]; rfl
    have f00 : wr.frozen? ⟨w.heap.size, 0, none⟩ = false := Lib.frozen_of_heap h0 0
    have f01 : wr.frozen? ⟨w.heap.size, 1, none⟩ = false := Lib.frozen_of_heap h0 1
    have f02 : wr.frozen? ⟨w.heap.size, 2, none⟩ = false := Lib.frozen_of_heap h0 2
    have f12 : wr.frozen? ⟨w.heap.size + 1, 2, none⟩ = false := Lib.frozen_of_heap h1 2
    have l1 := heap_of_lt h1
    have l6 := heap_of_lt h6
    have HP := Lib.hid hP
    have HK := Lib.hid hK
    have HRES := Lib.hid hres
    have HOWN := Lib.hid hown
    have HRAW := Lib.hid hraw
    have HX6 := Lib.hid h6
    have HX0 := Lib.hid h0
    have HX1 := Lib.hid h1
    have HSRR := Lib.hid hsr
    have HSTT := Lib.hid hst
    have HLEN := Lib.hid hlen
    clear hP hK hres hown hraw h6 h0 h1 hsr hst hlen
    by_cases k2 : t.kind = 2
    · have k2' : (t.kind != 2) = false := by simpa using k2
      have k2b : (t.kind == 2) = true := by simpa using k2
      obtain ⟨g, rfl⟩ : ∃ g, gk = g + 1 := ⟨gk - 1, by omega⟩
      have HR : Hid (res = .ok (listD acc) rest) := by
        show _ = _
        have := HRES.out
        unfold listF at this
        rwa [if_pos k2] at this
      have HK2 := Lib.hid k2
      clear k2
      go_wp2
      obtain ⟨W', hW'⟩ : ∃ W', W' = ((wr.setCell ⟨w.heap.size, 0, none⟩ (.int .i64 5)).setCell ⟨w.heap.size, 1, none⟩ (.string ⟨#[]⟩)).setCell ⟨w.heap.size, 2, none⟩ (.slice va acc.length vc) := ⟨_, rfl⟩
      have hKs : KeepP w.heap.size wr W' := by rw [hW']; exact ((KeepP.setCell _ _ _ _).trans (KeepP.setCell _ _ _ _)).trans (KeepP.setCell _ _ _ _)
      have hBl : Below w.heap.size wr W' := hKs.below (Nat.le_refl _) (by omega)
      have hzw : wr.heap.size ≤ W'.heap.size := hKs.size
      have hown' : W'.ownsRow (w.heap.size + 2) 30 3 (.slice va acc.length vc) acc.length (rawsCells rs) := own_block HOWN.out fun g hg => by
        have := HOWN.out.lt g hg
        exact hKs.block g this.2 (by omega)
      have hS : SliceOf W' (fun b => w.heap.size ≤ b ∧ b < W'.heap.size) (.slice va acc.length vc) acc := by
        refine SliceOf.of_own (rs := rs) (by rw [HLEN.out]; exact hown') (by unfold maxLen; omega) (fun g hg => ?_) (HRAW.out.mono (fun b hb => ⟨by omega, by omega⟩) (fun b o hb => hKs.cell hb.2.1 (by omega)))
        have := HOWN.out.lt g hg
        exact ⟨by omega, by omega⟩
      refine bodyPost_ret (v := .agg #[.int .i64 5, .string ⟨#[]⟩, .slice va acc.length vc]) (by simp [results, Tryd.results53, go_sem, e00, e01, e02]) rfl ?_
      rw [← hW', HR.out]
      refine ⟨_, rfl, hS, HP.out.behind hKs hpl, ?_⟩
      exact HK.out.then hBl
    · have k2' : (t.kind != 2) = true := by simpa using k2
      have k2b : (t.kind == 2) = false := by simpa using k2
      obtain ⟨g, rfl⟩ : ∃ g, gk = g + 1 := ⟨gk - 1, by omega⟩
      have hR := HRES.out
      unfold listF at hR
      rw [if_neg k2] at hR
      have hlp : p < wr.heap.size := by omega
      have C := HIH.out g (by omega) t rest ar p wr.drew (by omega) (by omega) har HSTT.out HSRR.out (HP.out.behind (KeepP.drew (p + 1) wr) (by omega))
      cases hx : datumF N g t rest ar with
      | bad a c =>
        rw [hx] at hR C
        have HR : Hid (res = .bad a c) := hR
        have HC : Hid (Calls Tryd.prog 37 #[.pointer (some ⟨p, 0, none⟩), .agg #[.int .i64 t.kind, .string t.text, .int .i64 t.pos], .int .i64 ar] wr.drew fun e w' => e = .panicked [{ v := .iface 65 (.agg #[.int .i64 a, .int .i64 c]), recovered := false }] ∧ KeepP p wr.drew w') := C
        clear hR C hx k2
        have hal : acc.length ≤ 300000 := by omega
        go_wp2
        go_region_law (first
          | (refine step_append_lies _ (by rfl) _ _ _ (by rfl) (w.heap.size + 2) 30 i0 _ 3 48 Tryd.underlying23 hi hz0 hz1 hz2 rfl (by omega) (.slice va acc.length vc) acc.length (rawsCells rs) (by rfl) (hown4.alloc _) ⟨w4.heap.size, 0, none⟩ 1 1 [.int .i64 0, .string ⟨#[]⟩, .slice none 0 0] (by rfl) (by rfl) (World.news_of_block (cs := #[.int .i64 0, .string ⟨#[]⟩, .slice none 0 0]) (t := 30) (fr := (0, 0)) (heap_alloc_new w4 _)) (by simp [Value.oneCell']) (by omega) (by unfold maxLen; omega) (by omega) (by simp; omega) (w4.heap.size + 1) (by simp) ?_
             intro gg cap' w5 hown5 hgrow hat hlt'
             have e125 : w5.cell? ⟨w.heap.size + 1, 2, none⟩ = some (.slice va acc.length vc) := (hgrow.cell (a := ⟨_, _, _⟩) (by rw [World.cell?_alloc_past _ _ _ hl4]; exact e12') hrow)
             have f125 : w5.frozen? ⟨w.heap.size + 1, 2, none⟩ = false := (World.frozen?_of_block (w := w4) (a := ⟨_, _, _⟩) ((hgrow.block _ (by simp; omega) hrow).trans (Below.heap_alloc _ _ _ hl4))).trans f12')
          | (go_simp
             go_at_call 37
             refine calls_or (.agg #[.int .i64 0, .string ⟨#[]⟩, .slice none 0 0]) HC.out ?hp ?_
             case hp => (intro w4 hk4; refine ⟨rfl, ?_⟩; rw [HR.out]; exact ⟨rfl, HK.out.trans ((KeepP.drew p wr).trans hk4)⟩)
             intro w4 hF
             dsimp only
             have hown4 : w4.ownsRow (w.heap.size + 2) 30 3 (.slice va acc.length vc) acc.length (rawsCells rs) := hF.out.elim
             have e12' : w4.cell? ⟨w.heap.size + 1, 2, none⟩ = some (.slice va acc.length vc) := hF.out.elim
             have f12' : w4.frozen? ⟨w.heap.size + 1, 2, none⟩ = false := hF.out.elim
             have hl4 : w.heap.size + 1 < w4.heap.size := hF.out.elim
             have hrow : some (w.heap.size + 1) ≠ (Value.slice va acc.length vc).ownBlock := hF.out.elim))
        all_goals exact hF.out.elim
      | ok x q =>
        rw [hx] at hR C
        have HR := Lib.hid hR
        have HC : Hid (Calls Tryd.prog 37 #[.pointer (some ⟨p, 0, none⟩), .agg #[.int .i64 t.kind, .string t.text, .int .i64 t.pos], .int .i64 ar] wr.drew fun e w' => ∃ sv, e = .returned (.agg #[.int .i64 x.kind, .string x.text, sv]) ∧ SliceOf w' (fun b => wr.heap.size ≤ b ∧ b < w'.heap.size) sv x.list ∧ PAt w' p N q ∧ KeepP p wr.drew w') := C
        have hal : acc.length ≤ 300000 := by omega
        obtain ⟨kq, hkq⟩ := datumF_rest N g t rest ar x q hx
        have hql : q.length ≤ rest.length := by rw [hkq, List.length_drop]; omega
        have hqs : ∀ u ∈ q, smTok u := fun u hu => HSRR.out u (List.mem_of_mem_drop (hkq ▸ hu))
        have HQL := Lib.hid hql
        have HQS := Lib.hid hqs
        clear hR C hx k2 hkq hql hqs
        go_wp2
        go_region_law (first
          | (refine step_append_lies _ (by rfl) _ _ _ (by rfl) (w.heap.size + 2) 30 i0 _ 3 48 Tryd.underlying23 hi hz0 hz1 hz2 rfl (by omega) (.slice va acc.length vc) acc.length (rawsCells rs) (by rfl) (hown4.alloc _) ⟨w4.heap.size, 0, none⟩ 1 1 [.int .i64 x.kind, .string x.text, .slice pa n4 pc] (by rfl) (by rfl) (World.news_of_block (cs := #[.int .i64 x.kind, .string x.text, .slice pa n4 pc]) (t := 30) (fr := (0, 0)) (heap_alloc_new w4 _)) (by simp [Value.oneCell']) (by omega) (by unfold maxLen; omega) (by omega) (by simp; omega) (w4.heap.size + 1) (by simp) ?_
             intro gg cap' w5 hown5 hgrow hat hlt'
             have e125 : w5.cell? ⟨w.heap.size + 1, 2, none⟩ = some (.slice va acc.length vc) := (hgrow.cell (a := ⟨_, _, _⟩) (by rw [World.cell?_alloc_past _ _ _ hl4]; exact e12') hrow)
             have f125 : w5.frozen? ⟨w.heap.size + 1, 2, none⟩ = false := (World.frozen?_of_block (w := w4) (a := ⟨_, _, _⟩) ((hgrow.block _ (by simp; omega) hrow).trans (Below.heap_alloc _ _ _ hl4))).trans f12')
          | (go_simp
             go_at_call 37
             refine HC.out.mono ?_
             rintro e w4 ⟨sv4, rfl, hs4, hp4, hk4⟩
             obtain ⟨pa, pc, hsv4⟩ := hs4.val
             obtain ⟨n4, hn4⟩ : ∃ n, n = x.list.length := ⟨_, rfl⟩
             rw [← hn4] at hsv4
             subst hsv4
             have hown4 : w4.ownsRow (w.heap.size + 2) 30 3 (.slice va acc.length vc) acc.length (rawsCells rs) := own_block HOWN.out fun g hg => hk4.block g (HOWN.out.lt g hg).2 (by have := (HOWN.out.lt g hg).1; omega)
             have e12' : w4.cell? ⟨w.heap.size + 1, 2, none⟩ = some (.slice va acc.length vc) := (hk4.cell (k := w.heap.size + 1) l1 (by omega)).trans e12
             have f12' : w4.frozen? ⟨w.heap.size + 1, 2, none⟩ = false := (World.frozen?_of_block (w := wr.drew) (a := ⟨_, _, _⟩) (hk4.block _ l1 (by show w.heap.size + 1 ≠ p; omega))).trans f12
             have hl4 : w.heap.size + 1 < w4.heap.size := Nat.lt_of_lt_of_le l1 hk4.size
             have hrow : some (w.heap.size + 1) ≠ (Value.slice va acc.length vc).ownBlock := fun h => by have := (hown4.lt _ h.symm).1; omega
             have HS4 := Lib.hid hs4
             have HP4 := Lib.hid hp4
             have HK4 := Lib.hid hk4
             have HN4 := Lib.hid hn4
             clear hs4 hp4 hk4 hn4))
        all_goals
          obtain ⟨w6, hw6⟩ : ∃ w6, w6 = w5.setCell ⟨w.heap.size + 1, 2, none⟩ (.slice (some ⟨gg, 0, none⟩) (acc.length + 1) cap') := ⟨_, rfl⟩
          rw [← hw6]
          have hz5 : w4.heap.size + 1 ≤ w5.heap.size := by have := hgrow.size; simpa using this
          have hz6 : w6.heap.size = w5.heap.size := by rw [hw6]; simp [World.setCell]
          have hz4 : wr.heap.size ≤ w4.heap.size := HK4.out.size
          have hggl : w.heap.size + 2 ≤ gg := (hown5.lt gg rfl).1
          have hb46 : ∀ k, k < w4.heap.size → (Value.slice va acc.length vc).ownBlock ≠ some k → k ≠ w.heap.size + 1 → w6.heap[k]? = w4.heap[k]? := fun k hk hr hk1 => by
            rw [hw6, Below.heap_setCell _ _ _ _ hk1, hgrow.block k (by simp; omega) (Ne.symm hr), Below.heap_alloc _ _ _ hk]
          have hbr6 : ∀ k, k < wr.heap.size → k ≠ p → (Value.slice va acc.length vc).ownBlock ≠ some k → k ≠ w.heap.size + 1 → w6.heap[k]? = wr.heap[k]? := fun k hk hkp hr hk1 => (hb46 k (by omega) hr hk1).trans (HK4.out.block k hk hkp)
          have hlow : Below w.heap.size w4 w6 := by
            rw [hw6]
            exact ((((Below.refl _ _).alloc (by omega) _).grown hgrow (by simp; omega) (fun k hk => by have := (hown4.lt k hk).1; omega)).setCell (p := ⟨_, _, _⟩) (by show w.heap.size ≤ w.heap.size + 1; omega) _)
          have hrow6 := own_type HOWN.out HX6.out (by decide)
          have hrow0 : (Value.slice va acc.length vc).ownBlock ≠ some w.heap.size := fun h => by have := (hown4.lt _ h).1; omega
          have h66 : w6.heap[b6]? = some (.cells #[.int .i64 t.kind, .string t.text, .int .i64 t.pos] 61 (0, 0)) := (hbr6 b6 l6 (by omega) hrow6 (by omega)).trans HX6.out
          have h06 : w6.heap[w.heap.size]? = some (.cells #[.int .i64 0, .string ⟨#[]⟩, .slice none 0 0] 30 (0, 0)) := (hbr6 _ (by omega) (by omega) hrow0 (by omega)).trans HX0.out
          have h16 : w6.heap[w.heap.size + 1]? = some (.cells #[.int .i64 5, .string ⟨#[]⟩, .slice (some ⟨gg, 0, none⟩) (acc.length + 1) cap'] 30 (0, 0)) := by
            rw [hw6]
            exact set2_heap (((hgrow.block _ (by simp; omega) hrow).trans (Below.heap_alloc _ _ _ hl4)).trans ((HK4.out.block _ l1 (by omega)).trans HX1.out))
          have hown6 : w6.ownsRow (w.heap.size + 2) 30 3 (.slice (some ⟨gg, 0, none⟩) (acc.length + 1) cap') (acc.length + 1) (rawsCells rs ++ [.int .i64 x.kind, .string x.text, .slice pa n4 pc]) := own_block hown5 fun g hg => by
            simp only [Value.ownBlock, Option.some.injEq] at hg
            subst hg
            rw [hw6, Below.heap_setCell _ _ _ _ (by show gg ≠ w.heap.size + 1; omega)]
          have g60 : w6.cell? ⟨b6, 0, none⟩ = some (.int .i64 t.kind) := by rw [Lib.cell_of_heap h66]; rfl
          have g61 : w6.cell? ⟨b6, 1, none⟩ = some (.string t.text) := by rw [Lib.cell_of_heap h66]; rfl
          have g62 : w6.cell? ⟨b6, 2, none⟩ = some (.int .i64 t.pos) := by rw [Lib.cell_of_heap h66]; rfl
          have hP6 : PAt w6 p N q := HP4.out.low hlow hpl
          have hK6 : KeepP p w w6 := (HK.out.trans ((KeepP.drew p wr).trans HK4.out)).then hlow
          -- what has been read so far
          have hraw6 : RawsOf w6 (fun b => w.heap.size + 2 ≤ b ∧ b < w6.heap.size ∧ (Value.slice (some ⟨gg, 0, none⟩) (acc.length + 1) cap').ownBlock ≠ some b) (rs ++ [⟨x.kind, x.text, .slice pa n4 pc⟩]) (acc ++ [x]) := by
            have hgg : ∀ b, b < w4.heap.size → (Value.slice va acc.length vc).ownBlock ≠ some b → (Value.slice (some ⟨gg, 0, none⟩) (acc.length + 1) cap').ownBlock ≠ some b := fun b hb hr h => by
              simp only [Value.ownBlock, Option.some.injEq] at h
              rcases hat with h' | h'
              · exact hr (h ▸ h')
              · omega
            refine RawsOf.snoc (HRAW.out.mono (fun b hb => ⟨hb.1, by have := hb.2.1; omega, hgg b (by have := hb.2.1; omega) hb.2.2.1⟩) (fun b o hb => World.cell?_of_block (hbr6 b hb.2.1 (by omega) hb.2.2.1 (by omega)))) ⟨rfl, rfl, ?_⟩
            refine HS4.out.mono (fun b hb => ?_) (fun b o hb => ?_)
            · have hnr : (Value.slice va acc.length vc).ownBlock ≠ some b := fun h => by have := (HOWN.out.lt _ h).2; omega
              exact ⟨by omega, by omega, hgg b hb.2 hnr⟩
            · have hnr : (Value.slice va acc.length vc).ownBlock ≠ some b := fun h => by have := (HOWN.out.lt _ h).2; omega
              exact World.cell?_of_block (hb46 b hb.2 hnr (by omega))
          have l66 := heap_of_lt h66
          have H66 := Lib.hid h66
          have H06 := Lib.hid h06
          have H16 := Lib.hid h16
          have HO6 := Lib.hid hown6
          have HP6 := Lib.hid hP6
          have HK6 := Lib.hid hK6
          have HR6 := Lib.hid hraw6
          have HZ6 := Lib.hid hz6
          clear hz6 hraw6 hK6 hP6 hown6 h16 h06 h66 hrow6 hrow0 hlow hbr6 hb46 hw6 hown5 hgrow hat hlt' hrow e125 f125 hown4 e12' f12' e60 e61 e62 e10 e11 e12 e00 e01 e02 f00 f01 f02 f12
          cases q with
          | nil =>
            have HRN : Hid (res = .bad N 3) := HR.out
            go_wp2_with fail
            refine (next_none p N _ (HP6.out.under ((Below.refl _ _).alloc (Nat.le_refl _) _))).mono ?_
            rintro e w8 ⟨rfl, hb8⟩
            refine ⟨rfl, ?_⟩
            rw [HRN.out]
            exact ⟨rfl, HK6.out.then ((((Below.refl _ _).alloc (Nat.le_refl _) _).trans (hb8.mono (by simp))).mono (by omega))⟩
          | cons t' q' =>
            have HRC : Hid (res = listF N g t' q' ar (acc ++ [x])) := HR.out
            obtain ⟨w7, hw7⟩ : ∃ w7, w7 = w6.alloc (.cells #[.int .i64 t.kind, .string t.text, .int .i64 t.pos] 61) := ⟨_, rfl⟩
            have hb67 : Below w6.heap.size w6 w7 := by rw [hw7]; exact (Below.refl _ _).alloc (Nat.le_refl _) _
            have h77 : w7.heap[w6.heap.size]? = some (.cells #[.int .i64 t.kind, .string t.text, .int .i64 t.pos] 61 (0, 0)) := by rw [hw7]; exact heap_alloc_new w6 _
            have HN7 := Lib.hid (next_some p N t' q' w7 (HP6.out.under hb67))
            have HB67 := Lib.hid hb67
            have H77 := Lib.hid h77
            clear hb67 h77
            go_wp2_with fail
            rw [← hw7]
            clear hw7
            refine HN7.out.mono ?_
            rintro e w8 ⟨rfl, hP8, hK8⟩
            have hz7 := HB67.out.size
            have l7 := heap_of_lt H77.out
            have hz8 := hK8.size
            have h88 : w8.heap[w6.heap.size]? = some (.cells #[.int .i64 t.kind, .string t.text, .int .i64 t.pos] 61 (0, 0)) := (hK8.block _ l7 (by omega)).trans H77.out
            have x0 : w8.cell? ⟨w6.heap.size, 0, none⟩ = some (.int .i64 t.kind) := by rw [Lib.cell_of_heap h88]; rfl
            have x1 : w8.cell? ⟨w6.heap.size, 1, none⟩ = some (.string t.text) := by rw [Lib.cell_of_heap h88]; rfl
            have x2 : w8.cell? ⟨w6.heap.size, 2, none⟩ = some (.int .i64 t.pos) := by rw [Lib.cell_of_heap h88]; rfl
            have y0 : w8.frozen? ⟨w6.heap.size, 0, none⟩ = false := Lib.frozen_of_heap h88 0
            have y1 : w8.frozen? ⟨w6.heap.size, 1, none⟩ = false := Lib.frozen_of_heap h88 1
            have y2 : w8.frozen? ⟨w6.heap.size, 2, none⟩ = false := Lib.frozen_of_heap h88 2
            have HP8 := Lib.hid hP8
            have HK8 := Lib.hid hK8
            have H88 := Lib.hid h88
            clear hP8 hK8 h88
            go_wp2
            go_roundg g
            case measure => omega
            case rel =>
              obtain ⟨w9, hw9⟩ : ∃ w9, w9 = ((w8.setCell ⟨w6.heap.size, 0, none⟩ (.int .i64 t'.kind)).setCell ⟨w6.heap.size, 1, none⟩ (.string t'.text)).setCell ⟨w6.heap.size, 2, none⟩ (.int .i64 t'.pos) := ⟨_, rfl⟩
              rw [← hw9]
              have h99 : w9.heap[w6.heap.size]? = some (.cells #[.int .i64 t'.kind, .string t'.text, .int .i64 t'.pos] 61 (0, 0)) := by rw [hw9]; exact set3_heap H88.out
              have hK89 : KeepP w6.heap.size w8 w9 := by rw [hw9]; exact ((KeepP.setCell _ _ _ _).trans (KeepP.setCell _ _ _ _)).trans (KeepP.setCell _ _ _ _)
              have hz9 := hK89.size
              have hb69 : ∀ k, k < w6.heap.size → k ≠ p → w9.heap[k]? = w6.heap[k]? := fun k hk hkp => ((hK89.block k (by omega) (by omega)).trans (HK8.out.block k (by omega) hkp)).trans (HB67.out.block k hk)
              have hl6 := HR6.out.1
              refine ⟨t', q', acc ++ [x], rs ++ [⟨x.kind, x.text, .slice pa n4 pc⟩], .slice (some ⟨gg, 0, none⟩) (acc.length + 1) cap', w6.heap.size, rfl, HRC.out, ?_, by omega, ?_, ?_, ?_, h99, by omega, ?_, ?_, ?_, ?_, ?_, ?_⟩
              · have := HQL.out; simp only [List.length_cons] at this; omega
              · have := HQL.out; simp only [List.length_cons] at this; simp only [List.length_append, List.length_cons, List.length_nil]; omega
              · exact HQS.out t' (by simp)
              · exact fun u hu => HQS.out u (by simp [hu])
              · exact (hb69 _ (by omega) (by omega)).trans H06.out
              · exact (hb69 _ (by omega) (by omega)).trans H16.out
              · rw [List.length_append, rawsCells_app]
                refine own_block HO6.out fun g' hg' => hb69 g' ?_ ?_
                · exact (HO6.out.lt g' hg').2
                · have := (HO6.out.lt g' hg').1; omega
              · refine HR6.out.mono (fun b hb => ⟨hb.1, by have := hb.2.1; omega, hb.2.2, by have := hb.2.1; omega⟩) (fun b o hb => World.cell?_of_block (hb69 b hb.2.1 (by omega)))
              · exact HP8.out.behind hK89 (by omega)
              · exact ((HK6.out.then (HB67.out.mono (by omega))).trans HK8.out).then (hK89.below (by omega) (by omega))
end Go.Proofs.YtghgjefobfaodaaDoor

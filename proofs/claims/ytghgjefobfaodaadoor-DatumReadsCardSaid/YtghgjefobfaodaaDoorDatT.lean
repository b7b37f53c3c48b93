import Derived.Test.YtghgjefobfaodaaDoorDatS
namespace Go.Proofs.YtghgjefobfaodaaDoor
open Go.RowKit

theorem list_any (N : Int) (f : Nat) (ih : ∀ g, g < f → DatumOK N g) : ListOK N f := by
  intro r ar p w hf hr har hsr hP
  match r, hf, hr, hsr, hP with
  | [], _, _, _, hP => exact list_none N ar p w hP
  | t :: r', hf, hr, hsr, hP =>
    simp only [List.length_cons] at hf hr
    exact list_some N f ar p t r' w ih (by omega) hr har (hsr t (by simp)) (fun u hu => hsr u (by simp [hu])) hP

/-- the result's variable is written last -/
theorem DVal.store {p : Nat} {N : Int} {w w4 : World} {d : Dat} {r' : List Tok} {sv : Value} (hpl : p < w.heap.size) (h1 : w.heap.size + 2 ≤ w4.heap.size)
    (hS : SliceOf w4 (fun b => w.heap.size + 2 ≤ b ∧ b < w4.heap.size) sv d.list) (hP : PAt w4 p N r') (hK : KeepP p w w4) :
    DVal p N w (.ok d r') (.returned (.agg #[.int .i64 d.kind, .string d.text, sv])) (((w4.setCell ⟨w.heap.size + 1, 0, none⟩ (.int .i64 d.kind)).setCell ⟨w.heap.size + 1, 1, none⟩ (.string d.text)).setCell ⟨w.heap.size + 1, 2, none⟩ sv) := by
  have hk : KeepP (w.heap.size + 1) w4 (((w4.setCell ⟨w.heap.size + 1, 0, none⟩ (.int .i64 d.kind)).setCell ⟨w.heap.size + 1, 1, none⟩ (.string d.text)).setCell ⟨w.heap.size + 1, 2, none⟩ sv) := ((KeepP.setCell _ _ _ _).trans (KeepP.setCell _ _ _ _)).trans (KeepP.setCell _ _ _ _)
  have hz := hk.size
  refine ⟨sv, rfl, hS.mono (fun b hb => ⟨by omega, by omega⟩) (fun b o hb => hk.cell hb.2 (by omega)), hP.behind hk (by omega), hK.then (hk.below (by omega) (by omega))⟩

/-- two boxes: the token's, and the result's -/
theorem two_boxes (w : World) (k pos : Int) (tx : ByteArray) : ∃ w2, w2 = (w.alloc (.cells #[.int .i64 k, .string tx, .int .i64 pos] 61)).alloc (.cells #[.int .i64 0, .string ⟨#[]⟩, .slice none 0 0] 30) ∧
    Below w.heap.size w w2 ∧ w2.heap.size = w.heap.size + 2 ∧ w2.heap[w.heap.size]? = some (.cells #[.int .i64 k, .string tx, .int .i64 pos] 61 (0, 0)) ∧ w2.heap[w.heap.size + 1]? = some (.cells #[.int .i64 0, .string ⟨#[]⟩, .slice none 0 0] 30 (0, 0)) := by
  refine ⟨_, rfl, ((Below.refl _ _).alloc (Nat.le_refl _) _).alloc (by simp) _, by simp, ?_, ?_⟩
  · rw [Below.heap_alloc _ _ _ (by simp)]; exact heap_alloc_new w _
  · simpa using heap_alloc_new (w.alloc (.cells #[.int .i64 k, .string tx, .int .i64 pos] 61)) (.cells #[.int .i64 0, .string ⟨#[]⟩, .slice none 0 0] 30)

set_option maxRecDepth 100000 in
set_option maxHeartbeats 2000000 in
theorem datum_close (N : Int) (p : Nat) (tx : ByteArray) (pos : Int) (ar : Nat) (w : World) :
    Calls Tryd.prog 37 #[.pointer (some ⟨p, 0, none⟩), .agg #[.int .i64 2, .string tx, .int .i64 pos], .int .i64 ar] w (DVal p N w (.bad pos 2)) := by
  go_enter Tryd.func37, Tryd.ntmps37
  go_wp2
  exact ⟨rfl, rfl, KeepP.under p (((Below.refl _ _).alloc (Nat.le_refl _) _).alloc (by simp) _)⟩

set_option maxRecDepth 100000 in
set_option maxHeartbeats 2000000 in
theorem datum_leaf (N : Int) (p : Nat) (t : Tok) (r : List Tok) (ar : Nat) (w : World) (h1 : t.kind ≠ 1) (h2 : t.kind ≠ 2) (h3 : t.kind ≠ 3) (h5 : t.kind ≠ 5) (hb : 1 ≤ t.kind ∧ t.kind ≤ 7) (hP : PAt w p N r) :
    Calls Tryd.prog 37 #[.pointer (some ⟨p, 0, none⟩), .agg #[.int .i64 t.kind, .string t.text, .int .i64 t.pos], .int .i64 ar] w (DVal p N w (.ok (.mk (t.kind - 3) t.text []) r)) := by
  have hpl := hP.lt
  obtain ⟨b1, b7⟩ := hb
  have k1 : (t.kind == 1) = false := by simpa using h1
  have k2 : (t.kind == 2) = false := by simpa using h2
  have k3 : (t.kind == 3) = false := by simpa using h3
  have k5 : (t.kind == 5) = false := by simpa using h5
  have HP := Lib.hid hP
  clear h1 h2 h3 h5 hP
  go_enter Tryd.func37, Tryd.ntmps37
  go_wp2
  have HB := Lib.hid (((Below.refl w.heap.size w).alloc (Nat.le_refl _) (.cells #[.int .i64 t.kind, .string t.text, .int .i64 t.pos] 61)).alloc (by simp) (.cells #[.int .i64 (t.kind - 3), .string t.text, .slice none 0 0] 30))
  exact bodyPost_ret (v := .agg #[.int .i64 (t.kind - 3), .string t.text, .slice none 0 0]) (by simp [results, Tryd.results37, go_sem]) rfl ⟨_, rfl, .mkNil _ _, HP.out.under HB.out, KeepP.under p HB.out⟩

set_option maxRecDepth 100000 in
set_option maxHeartbeats 2000000 in
theorem datum_num (N : Int) (p : Nat) (t : Tok) (r : List Tok) (ar : Nat) (w : World) (h5 : t.kind = 5) (ht : t.text.size ≤ 300000) (hP : PAt w p N r) :
    Calls Tryd.prog 37 #[.pointer (some ⟨p, 0, none⟩), .agg #[.int .i64 5, .string t.text, .int .i64 t.pos], .int .i64 ar] w (DVal p N w (if 200 < digs t.text then .bad t.pos 13 else .ok (.mk 2 ⟨(plainC t.text.data.toList).toArray⟩ []) r)) := by
  have hpl := hP.lt
  obtain ⟨w2, hw2, hb2, hz2, h20, h21⟩ := two_boxes w 5 t.pos t.text
  have HP := Lib.hid (hP.under hb2)
  have HB2 := Lib.hid hb2
  have HZ2 := Lib.hid hz2
  have H21 := Lib.hid h21
  by_cases hd : 200 < digs t.text
  · rw [if_pos hd]
    have C := number_bad t hd
    rw [h5] at C
    have HC := Lib.hid C
    clear C hd hP hb2 hz2 h20 h21
    go_enter Tryd.func37, Tryd.ntmps37
    go_wp2_with fail
    rw [← hw2]
    refine (HC.out _).mono ?_
    rintro e w' ⟨rfl, hb⟩
    exact ⟨rfl, rfl, KeepP.under p (HB2.out.trans (hb.mono (by have := HZ2.out; omega)))⟩
  · rw [if_neg hd]
    have C := number_ok t ht (by omega)
    rw [h5] at C
    obtain ⟨z, hz⟩ : ∃ z, z = plainC t.text.data.toList := ⟨_, rfl⟩
    rw [← hz] at C ⊢
    have HC := Lib.hid C
    clear C hd hP hb2 hz2 h20 h21 hz
    go_enter Tryd.func37, Tryd.ntmps37
    go_wp2_with fail
    rw [← hw2]
    clear hw2
    refine (HC.out _).mono ?_
    rintro e w4 ⟨rfl, hb⟩
    have hz2 := HZ2.out
    have hz4 := hb.size
    have h4 : w4.heap[w.heap.size + 1]? = some (.cells #[.int .i64 0, .string ⟨#[]⟩, .slice none 0 0] 30 (0, 0)) := (hb.block _ (by omega)).trans H21.out
    have e0 : w4.cell? ⟨w.heap.size + 1, 0, none⟩ = some (.int .i64 0) := by rw [Lib.cell_of_heap h4]; rfl
    have e1 : w4.cell? ⟨w.heap.size + 1, 1, none⟩ = some (.string ⟨#[]⟩) := by rw [Lib.cell_of_heap h4]; rfl
    have e2 : w4.cell? ⟨w.heap.size + 1, 2, none⟩ = some (.slice none 0 0) := by rw [Lib.cell_of_heap h4]; rfl
    have f0 : w4.frozen? ⟨w.heap.size + 1, 0, none⟩ = false := Lib.frozen_of_heap h4 0
    have f1 : w4.frozen? ⟨w.heap.size + 1, 1, none⟩ = false := Lib.frozen_of_heap h4 1
    have f2 : w4.frozen? ⟨w.heap.size + 1, 2, none⟩ = false := Lib.frozen_of_heap h4 2
    have HP4 := Lib.hid (HP.out.under hb)
    have HK4 := Lib.hid (KeepP.under p (HB2.out.trans (hb.mono (by omega))))
    have hz5 : w.heap.size + 2 ≤ w4.heap.size := by omega
    have HZ := Lib.hid hz2
    clear hb h4 hz2 hz4
    go_wp2
    exact bodyPost_ret (v := .agg #[.int .i64 2, .string ⟨z.toArray⟩, .slice none 0 0]) (by simp [results, Tryd.results37, go_sem, e0, e1, e2]) rfl (DVal.store (d := .mk 2 ⟨z.toArray⟩ []) hpl hz5 (.mkNil _ _) HP4.out HK4.out)

set_option maxRecDepth 100000 in
set_option maxHeartbeats 2000000 in
theorem datum_open (N : Int) (f p : Nat) (ih : ListOK N f) (t : Tok) (r : List Tok) (ar : Nat) (w : World) (h1 : t.kind = 1) (hf : 2 * r.length ≤ f) (hr : r.length ≤ 300000) (har : ar ≤ 60) (hsr : ∀ u ∈ r, smTok u) (hP : PAt w p N r) :
    Calls Tryd.prog 37 #[.pointer (some ⟨p, 0, none⟩), .agg #[.int .i64 1, .string t.text, .int .i64 t.pos], .int .i64 ar] w (DVal p N w (if ar = 60 then .bad t.pos 13 else listO N f r (ar + 1))) := by
  have hpl := hP.lt
  obtain ⟨w2, hw2, hb2, hz2, h20, h21⟩ := two_boxes w 1 t.pos t.text
  have HP := Lib.hid (hP.under hb2)
  have HB2 := Lib.hid hb2
  have HZ2 := Lib.hid hz2
  have H21 := Lib.hid h21
  by_cases hd : ar = 60
  · rw [if_pos hd]
    subst hd
    have C := within_bad t
    rw [h1] at C
    have HC := Lib.hid C
    clear C hP hb2 hz2 h20 h21
    go_enter Tryd.func37, Tryd.ntmps37
    go_wp2_with fail
    rw [← hw2]
    refine (HC.out _).mono ?_
    rintro e w' ⟨rfl, hb⟩
    exact ⟨rfl, rfl, KeepP.under p (HB2.out.trans (hb.mono (by have := HZ2.out; omega)))⟩
  · rw [if_neg hd]
    have C := within_ok t ar (by omega)
    rw [h1] at C
    have HC := Lib.hid C
    have L := fun w' h => ih r (ar + 1) p w' hf hr (by omega) hsr h
    have HL := Lib.hid L
    clear C L hd hP hb2 hz2 h20 h21 ih hsr
    go_enter Tryd.func37, Tryd.ntmps37
    go_wp2_with fail
    rw [← hw2]
    clear hw2
    refine (HC.out _).mono ?_
    rintro e w3 ⟨rfl, hb⟩
    have hz2 := HZ2.out
    have hz3 := hb.size
    have HP3 := Lib.hid (HP.out.under hb)
    have HB3 := Lib.hid (HB2.out.trans (hb.mono (by omega)))
    have h3 : w3.heap[w.heap.size + 1]? = some (.cells #[.int .i64 0, .string ⟨#[]⟩, .slice none 0 0] 30 (0, 0)) := (hb.block _ (by omega)).trans H21.out
    have H3 := Lib.hid h3
    have hz5 : w.heap.size + 2 ≤ w3.heap.size := by omega
    clear hb hz2 hz3 h3
    go_wp2_with fail
    refine (HL.out _ HP3.out).mono ?_
    rintro e w4 hv
    cases hx : listO N f r (ar + 1) with
    | bad a c =>
      rw [hx] at hv
      obtain ⟨rfl, hk⟩ := hv
      exact ⟨rfl, rfl, (KeepP.under p HB3.out).trans hk⟩
    | ok d q =>
      rw [hx] at hv
      obtain ⟨sv, rfl, hS, hP4, hK4⟩ := hv
      have h4 : w4.heap[w.heap.size + 1]? = some (.cells #[.int .i64 0, .string ⟨#[]⟩, .slice none 0 0] 30 (0, 0)) := (hK4.block _ (by omega) (by omega)).trans H3.out
      have e0 : w4.cell? ⟨w.heap.size + 1, 0, none⟩ = some (.int .i64 0) := by rw [Lib.cell_of_heap h4]; rfl
      have e1 : w4.cell? ⟨w.heap.size + 1, 1, none⟩ = some (.string ⟨#[]⟩) := by rw [Lib.cell_of_heap h4]; rfl
      have e2 : w4.cell? ⟨w.heap.size + 1, 2, none⟩ = some (.slice none 0 0) := by rw [Lib.cell_of_heap h4]; rfl
      have f0 : w4.frozen? ⟨w.heap.size + 1, 0, none⟩ = false := Lib.frozen_of_heap h4 0
      have f1 : w4.frozen? ⟨w.heap.size + 1, 1, none⟩ = false := Lib.frozen_of_heap h4 1
      have f2 : w4.frozen? ⟨w.heap.size + 1, 2, none⟩ = false := Lib.frozen_of_heap h4 2
      obtain ⟨pa, pc, hsv⟩ := hS.val
      obtain ⟨n4, hn4⟩ : ∃ n, n = d.list.length := ⟨_, rfl⟩
      rw [← hn4] at hsv
      subst hsv
      have hz4 := hK4.size
      have HS := Lib.hid hS
      have HP4 := Lib.hid hP4
      have HK4 := Lib.hid ((KeepP.under p HB3.out).trans hK4)
      have HX := Lib.hid hx
      clear hS hP4 hK4 h4 hn4 hx
      go_wp2
      exact bodyPost_ret (v := .agg #[.int .i64 d.kind, .string d.text, .slice pa n4 pc]) (by simp [results, Tryd.results37, go_sem, e0, e1, e2]) rfl (by rw [HX.out]; exact DVal.store (d := d) hpl (by omega) (HS.out.mono (fun b hb => ⟨by omega, hb.2⟩) (fun _ _ _ => rfl)) HP4.out HK4.out)

/-- what a quote comes to -/
def quoteO (N : Int) (f : Nat) (r : List Tok) (ar : Nat) : POut := match r with
  | [] => .bad N 3
  | t' :: r' => match datumF N f t' r' (ar + 1) with
    | .ok d r'' => .ok (listD [quoteD, d]) r''
    | .bad a c => .bad a c

theorem raws_two {w : World} {ok : Nat → Prop} {b : Nat} {d : Dat} {sv : Value} (h : w.heap[b]? = some (.cells #[.int .i64 1, .string ⟨#[113, 117, 111, 116, 101]⟩, .slice none 0 0, .int .i64 d.kind, .string d.text, sv] 30 (0, 0))) (hs : SliceOf w ok sv d.list) :
    Rows3 w b 0 [⟨1, ⟨#[113, 117, 111, 116, 101]⟩, .slice none 0 0⟩, ⟨d.kind, d.text, sv⟩] ∧ RawsOf w ok [⟨1, ⟨#[113, 117, 111, 116, 101]⟩, .slice none 0 0⟩, ⟨d.kind, d.text, sv⟩] [quoteD, d] := by
  constructor
  · intro j hj
    have : j = 0 ∨ j = 1 := by simp at hj; omega
    rcases this with rfl | rfl
    · refine ⟨?_, ?_, ?_⟩ <;> (rw [Lib.cell_of_heap h]; rfl)
    · refine ⟨?_, ?_, ?_⟩ <;> (rw [Lib.cell_of_heap h]; rfl)
  · refine ⟨rfl, fun j hj => ?_⟩
    have : j = 0 ∨ j = 1 := by simp at hj; omega
    rcases this with rfl | rfl
    · exact ⟨rfl, rfl, .mkNil _ _⟩
    · exact ⟨rfl, rfl, hs⟩

set_option maxRecDepth 100000 in
set_option maxHeartbeats 4000000 in
theorem datum_quote (N : Int) (f p : Nat) (ih : DatumOK N f) (t : Tok) (r : List Tok) (ar : Nat) (w : World) (h1 : t.kind = 3) (hf : 2 * r.length ≤ f + 1) (hr : r.length ≤ 300000) (har : ar ≤ 60) (hsr : ∀ u ∈ r, smTok u) (hP : PAt w p N r) :
    Calls Tryd.prog 37 #[.pointer (some ⟨p, 0, none⟩), .agg #[.int .i64 3, .string t.text, .int .i64 t.pos], .int .i64 ar] w (DVal p N w (if ar = 60 then .bad t.pos 13 else quoteO N f r ar)) := by
  have hpl := hP.lt
  obtain ⟨w2, hw2, hb2, hz2, h20, h21⟩ := two_boxes w 3 t.pos t.text
  have HP := Lib.hid (hP.under hb2)
  have HB2 := Lib.hid hb2
  have HZ2 := Lib.hid hz2
  have H21 := Lib.hid h21
  by_cases hd : ar = 60
  · rw [if_pos hd]
    subst hd
    have C := within_bad t
    rw [h1] at C
    have HC := Lib.hid C
    clear C hP hb2 hz2 h20 h21
    go_enter Tryd.func37, Tryd.ntmps37
    go_wp2_with fail
    rw [← hw2]
    refine (HC.out _).mono ?_
    rintro e w' ⟨rfl, hb⟩
    exact ⟨rfl, rfl, KeepP.under p (HB2.out.trans (hb.mono (by have := HZ2.out; omega)))⟩
  · rw [if_neg hd]
    have har1 : ar + 1 ≤ 60 := by omega
    have C := within_ok t ar (by omega)
    rw [h1] at C
    have HC := Lib.hid C
    have W := fun w => word_d ⟨#[113, 117, 111, 116, 101]⟩ (by decide) w
    have HW := Lib.hid W
    have HIH := Lib.hid ih
    have HSR := Lib.hid hsr
    clear C W hd hP hb2 hz2 h20 h21 ih hsr
    go_enter Tryd.func37, Tryd.ntmps37
    go_wp2_with fail
    rw [← hw2]
    clear hw2
    refine (HC.out _).mono ?_
    rintro e w3 ⟨rfl, hb⟩
    have hz2 := HZ2.out
    have hz3 := hb.size
    have HP3 := Lib.hid (HP.out.under hb)
    have HB3 := Lib.hid (HB2.out.trans (hb.mono (by omega)))
    have HB3' := Lib.hid hb
    have hz5 : w.heap.size + 2 ≤ w3.heap.size := by omega
    clear hb hz2 hz3
    go_wp2_with fail
    refine (HW.out _).mono ?_
    rintro e w4 ⟨rfl, hb⟩
    have hz4 := hb.size
    have HP4 := Lib.hid (HP3.out.under hb)
    have HB4 := Lib.hid (HB3.out.trans (hb.mono (by omega)))
    have h4 : w4.heap[w.heap.size + 1]? = some (.cells #[.int .i64 0, .string ⟨#[]⟩, .slice none 0 0] 30 (0, 0)) := (hb.block _ (by omega)).trans ((HB3'.out.block _ (by have := HZ2.out; omega)).trans H21.out)
    have H4 := Lib.hid h4
    clear hb h4
    cases r with
    | nil =>
      go_wp2_with fail
      refine (next_none p N _ HP4.out).mono ?_
      rintro e w5 ⟨rfl, hb⟩
      exact ⟨rfl, rfl, KeepP.under p (HB4.out.trans (hb.mono (by omega)))⟩
    | cons t' r' =>
      go_wp2_with fail
      refine (next_some p N t' r' _ HP4.out).mono ?_
      rintro e w5 ⟨rfl, hP5, hK5⟩
      have hz6 := hK5.size
      simp only [List.length_cons] at hf hr
      have D := HIH.out t' r' (ar + 1) p w5 (by omega) (by omega) har1 (HSR.out t' (by simp)) (fun u hu => HSR.out u (by simp [hu])) hP5
      have h5 : w5.heap[w.heap.size + 1]? = some (.cells #[.int .i64 0, .string ⟨#[]⟩, .slice none 0 0] 30 (0, 0)) := (hK5.block _ (by omega) (by omega)).trans H4.out
      have HD := Lib.hid D
      have HK5 := Lib.hid ((KeepP.under p HB4.out).trans hK5)
      have H5 := Lib.hid h5
      clear hP5 hK5 D h5
      go_wp2_with fail
      refine HD.out.mono ?_
      rintro e w6 hv
      cases hx : datumF N f t' r' (ar + 1) with
      | bad a c =>
        rw [hx] at hv
        obtain ⟨rfl, hk⟩ := hv
        refine ⟨rfl, ?_⟩
        have e : quoteO N f (t' :: r') ar = .bad a c := by unfold quoteO; simp only [hx]
        rw [e]
        exact ⟨rfl, HK5.out.trans hk⟩
      | ok d q =>
        rw [hx] at hv
        obtain ⟨sv, rfl, hS, hP6, hK6⟩ := hv
        obtain ⟨pa, pc, hsv⟩ := hS.val
        obtain ⟨n4, hn4⟩ : ∃ n, n = d.list.length := ⟨_, rfl⟩
        rw [← hn4] at hsv
        subst hsv
        have HX : Hid (quoteO N f (t' :: r') ar = .ok (listD [quoteD, d]) q) := by show _ = _; unfold quoteO; simp only [hx]
        obtain ⟨w7, hw7⟩ : ∃ w7, w7 = w6.alloc (.cells #[.int .i64 1, .string ⟨#[113, 117, 111, 116, 101]⟩, .slice none 0 0, .int .i64 d.kind, .string d.text, .slice pa n4 pc] 30) := ⟨_, rfl⟩
        have hb67 : Below w6.heap.size w6 w7 := by rw [hw7]; exact (Below.refl _ _).alloc (Nat.le_refl _) _
        have h77 : w7.heap[w6.heap.size]? = some (.cells #[.int .i64 1, .string ⟨#[113, 117, 111, 116, 101]⟩, .slice none 0 0, .int .i64 d.kind, .string d.text, .slice pa n4 pc] 30 (0, 0)) := by rw [hw7]; exact heap_alloc_new w6 _
        have hz7 : w7.heap.size = w6.heap.size + 1 := by rw [hw7]; simp
        obtain ⟨hR7, hRs7⟩ := raws_two h77 (hS.mono (fun _ h => h) (fun b o hb => hb67.cell (p := ⟨b, o, none⟩) hb.2))
        have R := row_d w6.heap.size [⟨1, ⟨#[113, 117, 111, 116, 101]⟩, .slice none 0 0⟩, ⟨d.kind, d.text, .slice pa n4 pc⟩] w7 rfl hR7 (by intro r hr; simp at hr; rcases hr with rfl | rfl <;> exact ⟨_, _, _, rfl⟩)
        have hz66 := hK6.size
        have HRow := Lib.hid R
        have HRs7 := Lib.hid hRs7
        have HP7 := Lib.hid (hP6.under hb67)
        have HK7 := Lib.hid ((HK5.out.trans hK6).trans (KeepP.under p hb67))
        have HZ7 := Lib.hid hz7
        have h7 : w7.heap[w.heap.size + 1]? = some (.cells #[.int .i64 0, .string ⟨#[]⟩, .slice none 0 0] 30 (0, 0)) := (hb67.block _ (by omega)).trans ((hK6.block _ (by omega) (by omega)).trans H5.out)
        have H7 := Lib.hid h7
        have hz75 : w5.heap.size ≤ w6.heap.size := by omega
        clear hb67 h77 hR7 hRs7 R hP6 hK6 hx h7 hS hn4 hz7
        go_wp2_with fail
        rw [← hw7]
        clear hw7
        refine HRow.out.mono ?_
        rintro e w9 ⟨⟨v9, rfl, hown9⟩, hb9⟩
        have hz9 := hb9.size
        have hz7 := HZ7.out
        have h9 : w9.heap[w.heap.size + 1]? = some (.cells #[.int .i64 0, .string ⟨#[]⟩, .slice none 0 0] 30 (0, 0)) := (hb9.block _ (by omega)).trans H7.out
        have e0 : w9.cell? ⟨w.heap.size + 1, 0, none⟩ = some (.int .i64 0) := by rw [Lib.cell_of_heap h9]; rfl
        have e1 : w9.cell? ⟨w.heap.size + 1, 1, none⟩ = some (.string ⟨#[]⟩) := by rw [Lib.cell_of_heap h9]; rfl
        have e2 : w9.cell? ⟨w.heap.size + 1, 2, none⟩ = some (.slice none 0 0) := by rw [Lib.cell_of_heap h9]; rfl
        have f0 : w9.frozen? ⟨w.heap.size + 1, 0, none⟩ = false := Lib.frozen_of_heap h9 0
        have f1 : w9.frozen? ⟨w.heap.size + 1, 1, none⟩ = false := Lib.frozen_of_heap h9 1
        have f2 : w9.frozen? ⟨w.heap.size + 1, 2, none⟩ = false := Lib.frozen_of_heap h9 2
        obtain ⟨qa, qc, rfl⟩ := own_slice hown9
        have hS9 : SliceOf w9 (fun b => w.heap.size + 2 ≤ b ∧ b < w9.heap.size) (.slice qa 2 qc) [quoteD, d] := by
          refine SliceOf.of_own (rs := [⟨1, ⟨#[113, 117, 111, 116, 101]⟩, .slice none 0 0⟩, ⟨d.kind, d.text, .slice pa n4 pc⟩]) hown9 (by simp [maxLen]) (fun g hg => ?_) (HRs7.out.mono (fun b hb => ⟨by omega, by omega⟩) (fun b o hb => hb9.cell (p := ⟨b, o, none⟩) (by show b < _; omega)))
          have := hown9.lt g hg
          exact ⟨by omega, by omega⟩
        have HS9 := Lib.hid hS9
        have HP9 := Lib.hid (HP7.out.under hb9)
        have HK9 := Lib.hid (HK7.out.trans (KeepP.under p hb9))
        have hz99 : w.heap.size + 2 ≤ w9.heap.size := by omega
        clear hS9 hown9 hb9 h9 hz7
        go_wp2
        exact bodyPost_ret (v := .agg #[.int .i64 5, .string ⟨#[]⟩, .slice qa 2 qc]) (by simp [results, Tryd.results37, go_sem, e0, e1, e2]) rfl (by rw [HX.out]; exact DVal.store (d := listD [quoteD, d]) hpl hz99 HS9.out HP9.out HK9.out)

theorem datum_any (N : Int) (f : Nat) (ih : ∀ g, g < f → DatumOK N g) : DatumOK N f := by
  intro t r ar p w hf hr har hst hsr hP
  match f, hf, ih with
  | 0, hf, _ => omega
  | g + 1, hf, ih =>
    by_cases k1 : t.kind = 1
    · have e : datumF N (g + 1) t r ar = if ar = 60 then .bad t.pos 13 else listO N g r (ar + 1) := by
        unfold datumF
        rw [if_pos k1]
        cases r <;> rfl
      rw [e, k1]
      exact datum_open N g p (list_any N g fun k hk => ih k (by omega)) t r ar w k1 (by omega) hr har hsr hP
    by_cases k3 : t.kind = 3
    · have e : datumF N (g + 1) t r ar = if ar = 60 then .bad t.pos 13 else quoteO N g r ar := by
        unfold datumF
        rw [if_neg k1, if_pos k3]
        cases r <;> rfl
      rw [e, k3]
      exact datum_quote N g p (ih g (by omega)) t r ar w k3 (by omega) hr har hsr hP
    by_cases k2 : t.kind = 2
    · have e : datumF N (g + 1) t r ar = .bad t.pos 2 := by
        unfold datumF
        rw [if_neg k1, if_neg k3, if_pos k2]
      rw [e, k2]
      exact datum_close N p t.text t.pos ar w
    by_cases k5 : t.kind = 5
    · have e : datumF N (g + 1) t r ar = if 200 < digs t.text then .bad t.pos 13 else .ok (.mk 2 ⟨(plainC t.text.data.toList).toArray⟩ []) r := by
        unfold datumF
        rw [if_neg k1, if_neg k3, if_neg k2, if_pos k5]
      rw [e, k5]
      exact datum_num N p t r ar w k5 hst.2 hP
    · have e : datumF N (g + 1) t r ar = .ok (.mk (t.kind - 3) t.text []) r := by
        unfold datumF
        rw [if_neg k1, if_neg k3, if_neg k2, if_neg k5]
      rw [e]
      exact datum_leaf N p t r ar w k1 k2 k3 k5 ⟨hst.1.1, hst.1.2.1⟩ hP
theorem datum_all (N : Int) : ∀ f, DatumOK N f := by
  intro f
  induction f using Nat.strongRecOn with
  | _ f ih => exact datum_any N f ih
end Go.Proofs.YtghgjefobfaodaaDoor

import Derived.Test.YtfboejdddgedcaaHpU
import Derived.StillTailTactics
namespace Go.Proofs.Ytfboejdddgedcaa
open Go.RowKit

theorem place_none {l : List Ob} {x : Nat} (h : atH l x = none) : placeH l x = (0, false) := by unfold placeH; rw [h]
theorem place_some {l : List Ob} {x k : Nat} (h : atH l x = some k) : placeH l x = (((adrH l k - 1 : Nat) : Int), true) := by unfold placeH; rw [h]
theorem OkL.at {l : List Ob} (h : OkL l) {k : Nat} (hk : k < l.length) : 1 ≤ (l.getD k ob0).kind ∧ (l.getD k ob0).kind ≤ 127 := ⟨(h k hk).1, (h k hk).2.1⟩
section
variable {w : World} {N : Nat → Prop} {hb cap : Nat} {l : List Ob}
/-- find, object over a heap's own space -/
theorem HwM.find {vw vs pw ps : Value} {W S P Z : List Nat} (h : HwM w N hb cap vw vs pw ps W S P Z) (hB : BitsP S l) (hS : S.length ≤ 100000) (x : Nat) (hx : x < 18446744073709551616) :
    Calls Try.prog 49 #[.pointer (some ⟨hb, 1, none⟩), .int .u64 x] w fun e w' => e = .returned (.tuple #[.int .i64 (placeH l x).1, .bool (placeH l x).2]) ∧ w = w' := pfind_any h.sp1 hB hS x hx
theorem HwM.row {vw vs pw ps : Value} {W S P Z : List Nat} (h : HwM w N hb cap vw vs pw ps W S P Z) (hn : 0 < W.length) : ∃ g c, vw = .slice (some ⟨g, 0, none⟩) W.length c := by
  obtain ⟨g, c, e, _⟩ := h.r1.elem hn
  exact ⟨g, c, e⟩
end
theorem lay_pos {W : List Nat} {hd : Nat → Nat} {l : List Ob} (h : LayP W hd l) {k : Nat} (hk : k < l.length) : 0 < W.length := by
  rw [h.len]
  have := adrH_in hk (Nat.zero_le _)
  have := adrH_pos l k
  omega

set_option maxHeartbeats 800000 in
/-- a word that refers to none: no fields -/
theorem pfields_none {w : World} {N : Nat → Prop} {hb cap : Nat} {l : List Ob} (h : PhAt w N hb cap l) (x : Nat) (hx : x < 18446744073709551616) (hat : atH l x = none) :
    Calls Try.prog 42 #[.pointer (some ⟨hb, 0, none⟩), .int .u64 x] w fun e w' => e = .returned (.slice none 0 0) ∧ ∃ d, w' = w.drewN d := by
  obtain ⟨vw, vs, pw, ps, W, S, Z, h1, h2⟩ := h
  have HF := Lib.hid (h1.find (l := l) h2.bits (by have := h2.s1; omega) x hx)
  rw [place_none hat] at HF
  dsimp only at HF
  clear h1 h2 hat hx
  go_enter Try.func42, Try.ntmps42
  go_wp2_with fail
  refine HF.out.mono ?_
  rintro e w' ⟨rfl, rfl⟩
  go_wp2
  go_ret
  exact ⟨rfl, 0, rfl⟩

set_option maxHeartbeats 800000 in
/-- the fields of a word's object, as they lie in the heap -/
theorem pfields_some {w : World} {N : Nat → Prop} {hb cap : Nat} {l : List Ob} {vw vs pw ps : Value} {W S Z : List Nat} (h1 : HwM w N hb cap vw vs pw ps W S [] Z) (h2 : HpC cap l W S Z) (x : Nat) (hx : x < 18446744073709551616) {k : Nat} (hat : atH l x = some k) :
    Calls Try.prog 42 #[.pointer (some ⟨hb, 0, none⟩), .int .u64 x] w fun e w' => (∃ g c o d, vw = .slice (some ⟨g, 0, none⟩) W.length c ∧ e = .returned (.slice (some ⟨g, o, none⟩) (l.getD k ob0).f.length d) ∧ (l.getD k ob0).f.length ≤ d ∧ (o = adrH l k ∨ (l.getD k ob0).f.length = 0)) ∧ ∃ d, w' = w.drewN d := by
  have hk := (atH_some.1 hat).1
  obtain ⟨g, c, rfl⟩ := h1.row (lay_pos h2.lay hk)
  have HF := Lib.hid (h1.find (l := l) h2.bits (by have := h2.s1; omega) x hx)
  rw [place_some hat] at HF
  dsimp only at HF
  obtain ⟨ho1, ho2⟩ := h2.ok.at hk
  have HO := Lib.hid (pobject_any h1.sp1 h2.lay hk rfl ho1 ho2 (Nat.le_trans h2.used h2.big))
  clear h1 h2 hat hx ho1 ho2
  generalize W.length = n at *
  generalize (l.getD k ob0).kind = kd at *
  generalize (l.getD k ob0).f.length = m at *
  generalize adrH l k - 1 = p at *
  go_enter Try.func42, Try.ntmps42
  go_wp2_with fail
  refine HF.out.mono ?_
  rintro e w' ⟨rfl, rfl⟩
  go_wp2_with fail
  refine HO.out.mono ?_
  rintro e w' ⟨⟨o, d, rfl, hd, ho⟩, d2, rfl⟩
  have HD := Lib.hid hd
  have HOO := Lib.hid ho
  clear hd ho
  go_wp2
  go_ret
  exact ⟨⟨g, c, o, d, rfl, rfl, HD.out, HOO.out⟩, _, rfl⟩

set_option maxHeartbeats 800000 in
/-- the kind of a word's object -/
theorem pkind_any {w : World} {N : Nat → Prop} {hb cap : Nat} {l : List Ob} (h : PhAt w N hb cap l) (x : Nat) (hx : x < 18446744073709551616) :
    Calls Try.prog 22 #[.pointer (some ⟨hb, 0, none⟩), .int .u64 x] w fun e w' => e = .returned (.tuple #[.int .i64 (kindH l x).1, .bool (kindH l x).2]) ∧ ∃ d, w' = w.drewN d := by
  obtain ⟨vw, vs, pw, ps, W, S, Z, h1, h2⟩ := h
  have HF := Lib.hid (h1.find (l := l) h2.bits (by have := h2.s1; omega) x hx)
  unfold kindH
  cases hat : atH l x with
  | none =>
    rw [place_none hat] at HF
    dsimp only at HF ⊢
    clear h1 h2 hat hx
    go_enter Try.func22, Try.ntmps22
    go_wp2_with fail
    refine HF.out.mono ?_
    rintro e w' ⟨rfl, rfl⟩
    go_wp2
    go_ret2
    exact ⟨rfl, 0, rfl⟩
  | some k =>
    rw [place_some hat] at HF
    dsimp only at HF ⊢
    have hk := (atH_some.1 hat).1
    obtain ⟨g, c, rfl⟩ := h1.row (lay_pos h2.lay hk)
    obtain ⟨ho1, ho2⟩ := h2.ok.at hk
    have HO := Lib.hid (pobject_any h1.sp1 h2.lay hk rfl ho1 ho2 (Nat.le_trans h2.used h2.big))
    clear h1 h2 hat hx ho1 ho2
    generalize W.length = n at *
    generalize (l.getD k ob0).kind = kd at *
    generalize (l.getD k ob0).f.length = m at *
    generalize adrH l k - 1 = p at *
    go_enter Try.func22, Try.ntmps22
    go_wp2_with fail
    refine HF.out.mono ?_
    rintro e w' ⟨rfl, rfl⟩
    go_wp2_with fail
    refine HO.out.mono ?_
    rintro e w' ⟨⟨o, d, rfl, hd, ho⟩, d2, rfl⟩
    clear hd ho
    go_wp2
    go_ret2
    exact ⟨rfl, _, rfl⟩

set_option maxHeartbeats 800000 in
/-- how many fields a word's object has -/
theorem plen_any {w : World} {N : Nat → Prop} {hb cap : Nat} {l : List Ob} (h : PhAt w N hb cap l) (x : Nat) (hx : x < 18446744073709551616) :
    Calls Try.prog 26 #[.pointer (some ⟨hb, 0, none⟩), .int .u64 x] w fun e w' => e = .returned (.int .i64 (lenH l x)) ∧ ∃ d, w' = w.drewN d := by
  unfold lenH
  cases hat : atH l x with
  | none =>
    have HF := Lib.hid (pfields_none h x hx hat)
    dsimp only
    clear h hat hx
    go_enter Try.func26, Try.ntmps26
    go_wp2_with fail
    refine HF.out.mono ?_
    rintro e w' ⟨rfl, d, rfl⟩
    go_wp2
    go_ret
    exact ⟨rfl, _, rfl⟩
  | some k =>
    obtain ⟨vw, vs, pw, ps, W, S, Z, h1, h2⟩ := h
    have HF := Lib.hid (pfields_some h1 h2 x hx hat)
    dsimp only
    clear h1 h2 hat hx
    generalize (l.getD k ob0).f.length = m at *
    go_enter Try.func26, Try.ntmps26
    go_wp2_with fail
    refine HF.out.mono ?_
    rintro e w' ⟨⟨g, c, o, d, rfl, rfl, hd, ho⟩, d2, rfl⟩
    clear hd ho HF
    go_wp2
    go_ret
    exact ⟨rfl, _, rfl⟩
end Go.Proofs.Ytfboejdddgedcaa

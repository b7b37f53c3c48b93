import Derived.Test.YtdpimcjdigdggaaLexR
namespace Go.Proofs.Ytdpimcjdigdggaa
open Go.RowKit

def awk1 : ByteArray := ⟨#[40, 102, 32, 45, 49, 32, 34, 97, 92, 110, 34, 41, 32, 59, 32, 120]⟩
def awk2 : ByteArray := ⟨#[97, 32, 34, 98]⟩
def awkT : List Tok := [⟨1, ⟨#[40]⟩, 0⟩, ⟨4, ⟨#[102]⟩, 1⟩, ⟨5, ⟨#[45, 49]⟩, 3⟩, ⟨6, ⟨#[97, 10]⟩, 6⟩, ⟨2, ⟨#[41]⟩, 11⟩]
theorem awk1_lex : lexN awk1.size awk1.data.toList = .ok awkT := by kernel_rfl
theorem awk2_lex : lexN awk2.size awk2.data.toList = .err 2 3 := by kernel_rfl
theorem awk_text : textVal awkT = .tuple #[.string ⟨#[40, 32, 102, 32, 45, 49, 32, 34, 97, 92, 110, 34, 32, 41]⟩, .int .i64 0] := by kernel_rfl

set_option maxRecDepth 100000 in
set_option maxHeartbeats 2000000 in
theorem awake_any (w : World) :
    Calls Try.prog 7 #[] w fun e w' => e = .returned (.bool true) ∧ Below w.heap.size w w' := by
  have L1 := fun w => lex_any awk1 (by decide) w
  have L2 := fun w => lex_any awk2 (by decide) w
  have T := fun v w h => text_any v awkT ⟨by decide, by intro t ht; simp [awkT] at ht; rcases ht with rfl | rfl | rfl | rfl | rfl <;> decide⟩ w h
  rw [awk1_lex] at L1
  rw [awk2_lex] at L2
  rw [awk_text] at T
  have H1 := Lib.hid L1
  have H2 := Lib.hid L2
  have HT := Lib.hid T
  clear L1 L2 T
  go_enter Try.func7, Try.ntmps7
  go_wp2_with fail
  refine (H1.out _).mono ?_
  rintro e w1 ⟨⟨sv, rfl, hT⟩, hb1⟩
  rcases hT with ⟨h0, _⟩ | ⟨b, off, cap, rfl, hbl, hmx, hcs⟩
  · cases h0
  have hT : Toks w1 (.slice (some ⟨b, off, none⟩) awkT.length cap) awkT := .inr ⟨b, off, cap, rfl, hbl, hmx, hcs⟩
  have HTk := Lib.hid hT
  have HCS := Lib.hid hcs
  have HB1 := Lib.hid hb1
  clear hT hcs hb1 hmx
  go_wp2_with fail
  refine (HT.out _ _ HTk.out).mono ?_
  rintro e w2 ⟨rfl, hb2⟩
  have HB2 := Lib.hid hb2
  clear hb2
  go_wp2_with fail
  refine (H2.out _).mono ?_
  rintro e w3 ⟨he, hb3⟩
  obtain rfl : e = _ := he
  have kc := fun o => ((hb3.cell (p := ⟨b, o, none⟩) (Nat.lt_of_lt_of_le hbl HB2.out.size)).trans (HB2.out.cell (p := ⟨b, o, none⟩) hbl))
  have m2 := (HCS.out 2 (by decide)).1
  have m2t := (HCS.out 2 (by decide)).2.1
  have m3t := (HCS.out 3 (by decide)).2.1
  have m4p := (HCS.out 4 (by decide)).2.2
  rw [← kc] at m2 m2t m3t m4p
  have hB := HB1.out.trans ((HB2.out.trans (hb3.mono HB2.out.size)).mono HB1.out.size)
  have HB := Lib.hid hB
  clear kc hb3 hB
  simp only [awkT, Nat.reduceMul, Nat.add_assoc, Nat.reduceAdd, List.getD_cons_succ, List.getD_cons_zero] at m2 m2t m3t m4p
  go_wp2
  go_ret
  exact ⟨rfl, HB.out⟩
end Go.Proofs.Ytdpimcjdigdggaa

import Derived.Test.YtghgjefobfaodaaDoorLexA
namespace Go.Proofs.YtghgjefobfaodaaDoor
open Go.RowKit

theorem bcell {W w1 : World} (hb : Below W.heap.size W w1) : (∀ b o, b < W.heap.size → w1.cell? ⟨b, o, none⟩ = W.cell? ⟨b, o, none⟩) ∧ (∀ b o, b < W.heap.size → w1.frozen? ⟨b, o, none⟩ = W.frozen? ⟨b, o, none⟩) :=
  ⟨fun b o h => hb.cell (p := ⟨b, o, none⟩) h, fun b o h => hb.frozen (p := ⟨b, o, none⟩) h⟩

/-- what a reader of a token returns -/
def stpVal (N a : Nat) : Stp → Value
  | .tok k t r => .tuple #[.agg #[.int .i64 (k : Int), .string ⟨t.toArray⟩, .int .i64 (a : Int)], .int .i64 ((N - r.length : Nat) : Int), .int .i64 0]
  | .err p c => .tuple #[.agg #[.int .i64 0, .string ⟨#[]⟩, .int .i64 0], .int .i64 ((N - p.length : Nat) : Int), .int .i64 (c : Int)]

set_option maxHeartbeats 400000 in
theorem clone_any (s : ByteArray) (hs : s.size ≤ 100000000) (w : World) :
    Calls Tryd.prog 33 #[.string s] w fun e w' => e = .returned (.string s) ∧ Below w.heap.size w w' := by
  go_enter Tryd.func33, Tryd.ntmps33
  go_wp2_with fail
  refine (Tryd.stringslite_Clone s w (by omega)).mono ?_
  rintro e w1 ⟨rfl, hb⟩
  go_wp2
  go_ret
  exact ⟨rfl, hb⟩

set_option maxHeartbeats 400000 in
theorem unescape_yes (c : UInt8) (h : escB c = true) (w : World) :
    Calls Tryd.prog 65 #[.int .u8 (c.toNat : Int)] w fun e w' => e = .returned (.tuple #[.int .u8 ((unesc c).toNat : Int), .bool true]) ∧ w = w' := by
  have hc : c = 34 ∨ c = 92 ∨ c = 110 := by simpa [escB, or_assoc] using h
  clear h
  rcases hc with rfl | rfl | rfl
  all_goals
    simp only [show ((34 : UInt8).toNat : Int) = 34 from rfl, show ((92 : UInt8).toNat : Int) = 92 from rfl, show ((110 : UInt8).toNat : Int) = 110 from rfl, show unesc 34 = 34 from rfl, show unesc 92 = 92 from rfl, show unesc 110 = 10 from rfl, show ((10 : UInt8).toNat : Int) = 10 from rfl]
    go_enter Tryd.func65, Tryd.ntmps65
    go_wp2
    go_ret2
    exact ⟨rfl, rfl⟩

set_option maxHeartbeats 400000 in
theorem unescape_no (c : UInt8) (h : escB c = false) (w : World) :
    Calls Tryd.prog 65 #[.int .u8 (c.toNat : Int)] w fun e w' => e = .returned (.tuple #[.int .u8 0, .bool false]) ∧ w = w' := by
  have hc : ((c.toNat : Int) == 34) = false ∧ ((c.toNat : Int) == 92) = false ∧ ((c.toNat : Int) == 110) = false := by
    simp [escB, ← UInt8.toNat_inj] at h
    simp; omega
  obtain ⟨h1, h2, h3⟩ := hc
  clear h
  go_enter Tryd.func65, Tryd.ntmps65
  go_wp2
  go_ret2
  exact ⟨rfl, rfl⟩

set_option maxHeartbeats 400000 in
theorem cut_any (s : ByteArray) (a b : Nat) (kd : Int) (hs : s.size ≤ 300000) (hab : a ≤ b) (hb : b ≤ s.size) (w : World) :
    Calls Tryd.prog 49 #[.string s, .int .i64 a, .int .i64 b, .int .i64 kd] w fun e w' => e = .returned (.tuple #[.agg #[.int .i64 kd, .string (s.extract a b), .int .i64 a], .int .i64 b, .int .i64 0]) ∧ Below w.heap.size w w' := by
  go_enter Tryd.func49, Tryd.ntmps49
  go_wp2_with fail
  refine (clone_any _ ?_ _).mono ?_
  · simp; omega
  rintro e w1 ⟨rfl, hb1⟩
  obtain ⟨hc, hf⟩ := bcell hb1
  go_wp2
  exact bodyPost_ret (v := .tuple #[.agg #[.int .i64 kd, .string (s.extract a b), .int .i64 a], .int .i64 b, .int .i64 0]) (by simp [results, Tryd.results49, go_sem, hc]) rfl ⟨rfl, (((((Below.refl _ _).alloc (Nat.le_refl _) _).trans (hb1.mono (by simp))).setCell (by simp) _).setCell (by simp) _).setCell (by simp) _⟩

theorem cut_int (s : ByteArray) (a b : Nat) (kd az bz : Int) (haz : az = a) (hbz : bz = b) (hs : s.size ≤ 300000) (hab : a ≤ b) (hb : b ≤ s.size) (w : World) :
    Calls Tryd.prog 49 #[.string s, .int .i64 az, .int .i64 bz, .int .i64 kd] w fun e w' => e = .returned (.tuple #[.agg #[.int .i64 kd, .string (s.extract a b), .int .i64 az], .int .i64 bz, .int .i64 0]) ∧ Below w.heap.size w w' := by
  subst haz hbz; exact cut_any s a b kd hs hab hb w

set_option maxHeartbeats 400000 in
theorem commentLast_any (s : ByteArray) (a : Nat) (hs : s.size ≤ 300000) (ha : a < s.size) (w : World) :
    Calls Tryd.prog 34 #[.string s, .int .i64 a] w fun e w' => e = .returned (.int .i64 (s.size - (dropCmt (s.data.toList.drop a)).length - 1 : Nat)) ∧ w = w' := by
  have hl := Lib.extract_to_end s a
  have hlen : (s.data.toList.drop a).length = s.size - a := by simp
  have hz := cmt_idx s a (by omega) _ hl hlen
  have hb : -1 ≤ idxZ (s.extract a s.size) 10 ∧ idxZ (s.extract a s.size) 10 ≤ 300000 := ⟨Lib.indexByte_ge _ _, by omega⟩
  have hlen' := hlen
  obtain ⟨hb1, hb2⟩ := hb
  have HZ := Lib.hid hz
  have HL := Lib.hid hl
  have HE := Lib.hid hlen
  clear hz hl hlen hlen'
  go_enter Tryd.func34, Tryd.ntmps34
  go_wp2_with fail
  refine (index_any _ _ _).mono ?_
  rintro e w1 ⟨rfl, rfl⟩
  go_wp2
  all_goals
    go_ret
    refine ⟨ret_int ?_, rfl⟩
    have hz := HZ.out
    rcases hz with ⟨h1, h2⟩ | ⟨h1, h2⟩
    · first
      | omega
      | (rw [h2, List.length_nil]; omega)
    · omega
end Go.Proofs.YtghgjefobfaodaaDoor

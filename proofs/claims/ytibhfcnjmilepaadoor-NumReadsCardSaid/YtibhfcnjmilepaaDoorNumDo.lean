import Derived.Test.YtibhfcnjmilepaaDoorNumPl
namespace Go.Proofs.YtibhfcnjmilepaaDoor
open Go.RowKit

theorem dec_le {K : Nat} {x : Int} (h : (digB x.natAbs).length ≤ K) : (decN x.natAbs).length ≤ 9 * K + 9 := by
  have h1 := digB_len.1 (Nat.le_trans h (Nat.le_succ K))
  exact (dec_len (k := 9 * (K + 1)) (by omega)).2 (by rw [pow_nine]; exact h1)
/-- a document's number as cells -/
def DocV (m : Bool) (D : ByteArray) (x : Int) : Prop := intV x = .agg #[.bool m, .string D]
theorem doc_ex (x : Int) : ∃ m D, DocV m D x := ⟨_, _, rfl⟩
theorem small_ex (x : Int) : ∃ n b, smallV x = .tuple #[.int .i64 n, .bool b] := ⟨_, _, rfl⟩
theorem dadd {m n k : Bool} {A B C : ByteArray} {x y z : Int} (ha : DocV m A x) (hb : DocV n B y) (hz : x + y = z) (hc : DocV k C z) (hx : (digB x.natAbs).length ≤ 15) (hy : (digB y.natAbs).length ≤ 15) (w : World) :
    Calls Tryd.prog 26 #[.agg #[.bool m, .string A], .agg #[.bool n, .string B]] w fun e w' => e = .returned (.agg #[.bool k, .string C]) ∧ Below w.heap.size w w' := by
  have h1 := dec_le hx
  have h2 := dec_le hy
  have := add_any (decide (x < 0)) (decide (y < 0)) x.natAbs y.natAbs (by omega) (by omega) w
  rw [sg_int, sg_int, hz] at this
  rw [← ha, ← hb, ← hc]
  exact this
theorem dsub {m n k : Bool} {A B C : ByteArray} {x y z : Int} (ha : DocV m A x) (hb : DocV n B y) (hz : x - y = z) (hc : DocV k C z) (hx : (digB x.natAbs).length ≤ 15) (hy : (digB y.natAbs).length ≤ 15) (w : World) :
    Calls Tryd.prog 28 #[.agg #[.bool m, .string A], .agg #[.bool n, .string B]] w fun e w' => e = .returned (.agg #[.bool k, .string C]) ∧ Below w.heap.size w w' := by
  have h1 := dec_le hx
  have h2 := dec_le hy
  have := sub_any (decide (x < 0)) (decide (y < 0)) x.natAbs y.natAbs (by omega) (by omega) w
  rw [sg_int, sg_int, hz] at this
  rw [← ha, ← hb, ← hc]
  exact this
theorem dmul {m n k : Bool} {A B C : ByteArray} {x y z : Int} (ha : DocV m A x) (hb : DocV n B y) (hz : x * y = z) (hc : DocV k C z) (hx : (digB x.natAbs).length ≤ 15) (hy : (digB y.natAbs).length ≤ 15) (w : World) :
    Calls Tryd.prog 30 #[.agg #[.bool m, .string A], .agg #[.bool n, .string B]] w fun e w' => e = .returned (.agg #[.bool k, .string C]) ∧ Below w.heap.size w w' := by
  have h1 := dec_le hx
  have h2 := dec_le hy
  have h3 : (digB (x * y).natAbs).length ≤ 30 := by have := dl_mul x y; omega
  have h4 := dec_le h3
  rw [Int.natAbs_mul] at h4
  have := mul_any (decide (x < 0)) (decide (y < 0)) x.natAbs y.natAbs (by omega) (by omega) (by omega) w
  rw [sg_int, sg_int, hz] at this
  rw [← ha, ← hb, ← hc]
  exact this
theorem dcmp {m n : Bool} {A B : ByteArray} {x y z : Int} (ha : DocV m A x) (hb : DocV n B y) (hz : cmpZ x y = z) (hx : (digB x.natAbs).length ≤ 15) (hy : (digB y.natAbs).length ≤ 15) (w : World) :
    Calls Tryd.prog 32 #[.agg #[.bool m, .string A], .agg #[.bool n, .string B]] w fun e w' => e = .returned (.int .i64 z) ∧ Below w.heap.size w w' := by
  have h1 := dec_le hx
  have h2 := dec_le hy
  have := cmp_any (decide (x < 0)) (decide (y < 0)) x.natAbs y.natAbs (by omega) (by omega) w
  rw [sg_int, sg_int, hz] at this
  rw [← ha, ← hb]
  exact this
theorem dquo {m n k : Bool} {A B C : ByteArray} {x y z c : Int} (ha : DocV m A x) (hb : DocV n B y) (hz : (quoZ x y).getD 0 = z) (hk : errZ (quoZ x y) 8 = c) (hc : DocV k C z) (hx : (digB x.natAbs).length ≤ 15) (hy : (digB y.natAbs).length ≤ 15) (w : World) :
    Calls Tryd.prog 23 #[.agg #[.bool m, .string A], .agg #[.bool n, .string B]] w fun e w' => e = .returned (.tuple #[.agg #[.bool k, .string C], .int .i64 c]) ∧ Below w.heap.size w w' := by
  have h1 := dec_le hx
  have h2 := dec_le hy
  rw [← ha, ← hb, ← hc]
  by_cases h0 : y = 0
  · subst h0
    have := quo_zero (decide (x < 0)) (decide ((0 : Int) < 0)) x.natAbs (by omega) w
    rw [show quoZ x 0 = none from rfl] at hz hk
    rw [← hz, ← hk]
    exact this
  · have := quo_some (decide (x < 0)) (decide (y < 0)) x.natAbs y.natAbs (by omega) (by omega) (by omega) w
    rw [sg_int, sg_int] at this
    rw [show quoZ x y = some (x.tdiv y) by unfold quoZ; rw [if_neg h0]] at hz hk
    rw [← hz, ← hk]
    exact this
theorem drem {m n k : Bool} {A B C : ByteArray} {x y z c : Int} (ha : DocV m A x) (hb : DocV n B y) (hz : (remZ x y).getD 0 = z) (hk : errZ (remZ x y) 8 = c) (hc : DocV k C z) (hx : (digB x.natAbs).length ≤ 15) (hy : (digB y.natAbs).length ≤ 15) (w : World) :
    Calls Tryd.prog 24 #[.agg #[.bool m, .string A], .agg #[.bool n, .string B]] w fun e w' => e = .returned (.tuple #[.agg #[.bool k, .string C], .int .i64 c]) ∧ Below w.heap.size w w' := by
  have h1 := dec_le hx
  have h2 := dec_le hy
  rw [← ha, ← hb, ← hc]
  by_cases h0 : y = 0
  · subst h0
    have := rem_zero (decide (x < 0)) (decide ((0 : Int) < 0)) x.natAbs (by omega) w
    rw [show remZ x 0 = none from rfl] at hz hk
    rw [← hz, ← hk]
    exact this
  · have := rem_some (decide (x < 0)) (decide (y < 0)) x.natAbs y.natAbs (by omega) (by omega) (by omega) w
    rw [sg_int, sg_int] at this
    rw [show remZ x y = some (x.tmod y) by unfold remZ; rw [if_neg h0]] at hz hk
    rw [← hz, ← hk]
    exact this
theorem dtext {m : Bool} {A S : ByteArray} {x : Int} {K : Nat} (ha : DocV m A x) (hS : (⟨(textZ x).toArray⟩ : ByteArray) = S) (hx : (digB x.natAbs).length ≤ K) (hK : K ≤ 1000) (w : World) :
    Calls Tryd.prog 12 #[.agg #[.bool m, .string A]] w fun e w' => e = .returned (.string S) ∧ Below w.heap.size w w' := by
  have h1 := dec_le hx
  rw [← ha, ← hS]
  exact rtext_any x (by omega) w
theorem dsmall {m : Bool} {A : ByteArray} {x n : Int} {b : Bool} {K : Nat} (ha : DocV m A x) (hs : smallV x = .tuple #[.int .i64 n, .bool b]) (hx : (digB x.natAbs).length ≤ K) (hK : K ≤ 400) (w : World) :
    Calls Tryd.prog 19 #[.agg #[.bool m, .string A]] w fun e w' => e = .returned (.tuple #[.int .i64 n, .bool b]) ∧ Below w.heap.size w w' := by
  have h1 := dec_le hx
  rw [← ha, ← hs]
  exact rsmall_any x (by omega) w
theorem nsmallG {K : Nat} {w : World} {a : Value} {x n : Int} {b : Bool} (hs : smallV x = .tuple #[.int .i64 n, .bool b]) (ha : NumIs K w a x) (hK : K ≤ 10000) : Calls Tryd.prog 18 #[a] w fun e w' => e = .returned (.tuple #[.int .i64 n, .bool b]) ∧ Below w.heap.size w w' := by
  rw [← hs]
  exact nsmall ha hK
theorem nquoG {K L : Nat} {w : World} {a b : Value} {x y q c : Int} (ha : NumIs K w a x) (hb : NumIs L w b y) (hK : K ≤ 10000) (hL : L ≤ 10000) (hq : (quoZ x y).getD 0 = q) (hc : errZ (quoZ x y) 8 = c) : Calls Tryd.prog 21 #[a, b] w (OkPost K c q w) := by
  subst hq
  subst hc
  exact (nquo ha hb hK hL).mono fun _ _ h => h
theorem nremG {K L : Nat} {w : World} {a b : Value} {x y r c : Int} (ha : NumIs K w a x) (hb : NumIs L w b y) (hK : K ≤ 10000) (hL : L ≤ 10000) (hr : (remZ x y).getD 0 = r) (hc : errZ (remZ x y) 8 = c) : Calls Tryd.prog 22 #[a, b] w (OkPost K c r w) := by
  subst hr
  subst hc
  exact (nrem ha hb hK hL).mono fun _ _ h => h
theorem dread {s A : ByteArray} {m : Bool} {x : Int} (hs : s.size ≤ 10000) (hx : readZ s.data.toList = some x) (ha : DocV m A x) (w : World) :
    Calls Tryd.prog 10 #[.string s] w fun e w' => e = .returned (.tuple #[.agg #[.bool m, .string A], .int .i64 0]) ∧ Below w.heap.size w w' := by
  have := rread_any s hs w
  rw [hx] at this
  rw [← ha]
  exact this
theorem dread_none {s : ByteArray} (hs : s.size ≤ 10000) (hx : readZ s.data.toList = none) (w : World) :
    Calls Tryd.prog 10 #[.string s] w fun e w' => e = .returned (.tuple #[.agg #[.bool false, .string ⟨#[]⟩], .int .i64 2]) ∧ Below w.heap.size w w' := by
  have := rread_any s hs w
  rw [hx] at this
  exact this
theorem dl_quoG (x y : Int) : (digB ((quoZ x y).getD 0).natAbs).length ≤ (digB x.natAbs).length := by
  unfold quoZ
  by_cases h : y = 0
  · rw [if_pos h]
    show (digB 0).length ≤ _
    rw [digB_zero]; exact Nat.zero_le _
  · rw [if_neg h]; exact dl_quo x y
theorem dl_remG (x y : Int) : (digB ((remZ x y).getD 0).natAbs).length ≤ (digB x.natAbs).length := by
  unfold remZ
  by_cases h : y = 0
  · rw [if_pos h]
    show (digB 0).length ≤ _
    rw [digB_zero]; exact Nat.zero_le _
  · rw [if_neg h]; exact dl_rem x y
/-- a document's number in a block of its own -/
def DocAt (w : World) (g : Nat) (m : Bool) (D : ByteArray) : Prop := w.heap[g]? = some (.cells #[.bool m, .string D] 30 (0, 0))
theorem DocAt.c0 {w : World} {g : Nat} {m : Bool} {D : ByteArray} (h : DocAt w g m D) : w.cell? ⟨g, 0, none⟩ = some (.bool m) := Lib.cell_of_heap h 0
theorem DocAt.c1 {w : World} {g : Nat} {m : Bool} {D : ByteArray} (h : DocAt w g m D) : w.cell? ⟨g, 1, none⟩ = some (.string D) := Lib.cell_of_heap h 1
theorem DocAt.lt {w : World} {g : Nat} {m : Bool} {D : ByteArray} (h : DocAt w g m D) : g < w.heap.size := (Array.getElem?_eq_some_iff.1 h).1
theorem DocAt.below {w w' : World} {B g : Nat} {m : Bool} {D : ByteArray} (h : DocAt w g m D) (hb : Below B w w') (hg : g < B) : DocAt w' g m D := (hb.block g hg).trans h
theorem DocAt.made (w : World) (m : Bool) (D : ByteArray) : DocAt (w.alloc (.cells #[.bool m, .string D] 30)) w.heap.size m D := heap_alloc_new _ _
end Go.Proofs.YtibhfcnjmilepaaDoor

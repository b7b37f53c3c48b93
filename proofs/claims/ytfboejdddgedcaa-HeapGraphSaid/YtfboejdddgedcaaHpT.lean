import Derived.Test.YtfboejdddgedcaaHpS
namespace Go.Proofs.Ytfboejdddgedcaa
open Go.RowKit

/-- objects as the program keeps them -/
def OkL (l : List Ob) : Prop := ∀ k, k < l.length → 1 ≤ (l.getD k ob0).kind ∧ (l.getD k ob0).kind ≤ 127 ∧ ∀ x ∈ (l.getD k ob0).f, x < 18446744073709551616
theorem head_small {o : Ob} (h1 : 1 ≤ o.kind) (h2 : o.kind ≤ 127) (h3 : o.f.length ≤ 1048576) : headN o < 1099511627776 ∧ ((headN o % 256 : Nat) : Int) = o.kind ∧ headN o / 256 = o.f.length := by
  unfold headN
  omega

set_option maxRecDepth 20000 in
set_option maxHeartbeats 1600000 in
/-- the kind and the fields of an object -/
theorem pobject_any {w : World} {hb f g n c : Nat} {vs : Value} {W S : List Nat} {l : List Ob} {hd : Nat → Nat} {k : Nat} (h : SpM w hb f (.slice (some ⟨g, 0, none⟩) n c) vs W S) (hL : LayP W hd l) (hk : k < l.length)
    (hh : hd k = headN (l.getD k ob0)) (h1 : 1 ≤ (l.getD k ob0).kind) (h2 : (l.getD k ob0).kind ≤ 127) (hu : usedH l ≤ 1048576) :
    Calls Try.prog 46 #[.pointer (some ⟨hb, f, none⟩), .int .i64 ((adrH l k - 1 : Nat) : Int)] w fun e w' =>
      (∃ o d, e = .returned (.tuple #[.int .i64 (l.getD k ob0).kind, .slice (some ⟨g, o, none⟩) (l.getD k ob0).f.length d]) ∧ (l.getD k ob0).f.length ≤ d ∧ (o = adrH l k ∨ (l.getD k ob0).f.length = 0)) ∧ ∃ d, w' = w.drewN d := by
  have hp := adrH_pos l k
  have hin := adrH_in (j := (l.getD k ob0).f.length) hk (Nat.le_refl _)
  have hhd := hL.hd k hk
  have hWl := hL.len
  obtain ⟨hs1, hs2, hs3⟩ := head_small h1 h2 (by omega)
  rw [hh] at hhd
  obtain ⟨g', c', hv, he, _, _⟩ := h.rw.elem (j := adrH l k - 1) (by omega)
  rw [hhd] at he
  obtain ⟨va, vc, hv2, hv3, hv4⟩ := h.rw.val
  cases hv
  cases hv2
  have hc0 := h.c0
  have HC := Lib.hid (pparts_any (headN (l.getD k ob0)) hs1)
  rw [hs2, hs3] at HC
  clear hs1 hs2 hs3 hh hhd hL h h1 h2
  generalize headN (l.getD k ob0) = y at he HC
  generalize (l.getD k ob0).kind = kd at HC ⊢
  generalize (l.getD k ob0).f.length = m at HC hin ⊢
  obtain ⟨p, hp2⟩ : ∃ p, adrH l k = p + 1 := ⟨adrH l k - 1, by omega⟩
  rw [hp2] at hp hin he ⊢
  rw [show p + 1 - 1 = p by omega] at he ⊢
  clear hp2 hp
  obtain ⟨n, hn⟩ : ∃ n, n = W.length := ⟨_, rfl⟩
  rw [← hn] at hc0 hWl hv3
  clear hn
  have hn1 : n ≤ 1048576 := by omega
  have hpm : p + 1 + m ≤ n := by omega
  clear hWl hin hu hk
  have hc63 : (c : Int) ≤ 9223372036854775807 := by unfold maxLen at hv4; omega
  clear hv4
  go_enter Try.func46, Try.ntmps46
  go_wp2_with fail
  refine (HC.out w).mono ?_
  rintro e w' ⟨rfl, rfl⟩
  go_wp2
  go_quiet (fail)
  go_wp2
  · go_ret2
    exact ⟨⟨_, _, rfl, by omega, .inr (by omega)⟩, _, rfl⟩
  · go_ret2
    exact ⟨⟨_, _, rfl, by omega, .inl rfl⟩, _, rfl⟩
end Go.Proofs.Ytfboejdddgedcaa

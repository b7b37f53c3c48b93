import Derived.Test.YtghgjefobfaodaaDoorDatV
import Derived.Test.YtghgjefobfaodaaDoorDatX
namespace Go.Proofs.YtghgjefobfaodaaDoor
open Go.RowKit

set_option maxRecDepth 100000 in
set_option maxHeartbeats 2000000 in
theorem read_any (s : ByteArray) (hs : s.size ≤ 300000) (w : World) :
    Calls Tryd.prog 8 #[.string s] w (RVal w (readN s.size s.data.toList)) := by
  have L := fun w => lexc_any s (by omega) w
  have e0 : s.data.toList.length = s.size := Array.length_toList
  cases hx : lexN s.size s.data.toList with
  | err p c =>
    rw [hx] at L
    have HL := Lib.hid L
    have hc := lexN_code hx
    have hne : ((c : Int) != 0) = true := by rw [bne_iff_ne]; omega
    have HR : Hid (readN s.size s.data.toList = .err p c) := by show _ = _; unfold readN; rw [hx]
    clear L hx hc
    go_enter Tryd.func8, Tryd.ntmps8
    go_wp2_with fail
    refine (HL.out _).mono ?_
    rintro e w1 ⟨he, hb⟩
    obtain rfl : e = .returned (.tuple #[.slice none 0 0, .int .i64 (p : Int), .int .i64 (c : Int)]) := he
    have HB := Lib.hid hb
    clear hb
    go_wp2
    go_ret3
    rw [HR.out]
    exact ⟨rfl, HB.out⟩
  | ok ts =>
    obtain ⟨hv, hlen⟩ := lex_all hx (by omega)
    rw [hx] at L
    have HL := Lib.hid L
    have HR : Hid (readN s.size s.data.toList = allF s.size (ts.length + 1) ts []) := by
      show _ = _
      unfold readN
      rw [hx]
      exact allF_run s.size (ts.length + 1) ts [] (Nat.lt_succ_self _) (fun u hu => (hv u hu).2.1)
    have P := fun v w h1 h2 => parse_any s.size v ts w (by omega) (fun u hu => ⟨(hv u hu).2.1, by have := (hv u hu).2.2; omega⟩) h1 h2
    have HP := Lib.hid P
    clear L hx hv hlen P
    go_enter Tryd.func8, Tryd.ntmps8
    go_wp2_with fail
    refine (HL.out _).mono ?_
    rintro e w1 ⟨⟨sv, rfl, hT, hI⟩, hb⟩
    obtain ⟨pa, pc, hsv⟩ := toks_one hT
    obtain ⟨n, hn⟩ : ∃ n, n = ts.length := ⟨_, rfl⟩
    rw [← hn] at hsv
    subst hsv
    have HB := Lib.hid hb
    have HC := Lib.hid (HP.out _ w1 hT hI)
    have hsz := hb.size
    have HN := Lib.hid hn
    clear hb hT hI hn
    go_wp2_with fail
    refine HC.out.mono ?_
    rintro e w2 ⟨hv, hb2⟩
    rw [← HR.out] at hv
    cases ho : readN s.size s.data.toList with
    | ok l =>
      rw [ho] at hv
      obtain ⟨sv, rfl, hS⟩ := hv
      have HS := Lib.hid hS
      have HB2 := Lib.hid hb2
      have HO := Lib.hid ho
      obtain ⟨qa, qc, hsv⟩ := hS.val
      obtain ⟨m, hm⟩ : ∃ m, m = l.length := ⟨_, rfl⟩
      rw [← hm] at hsv
      subst hsv
      clear hS hb2 ho hm
      go_wp2
      go_ret3
      refine ⟨?_, HB.out.trans (HB2.out.mono hsz)⟩
      first
      | exact ⟨_, rfl, HS.out.mono (fun b hb => ⟨by omega, hb.2⟩) (fun _ _ _ => rfl)⟩
      | (rw [HO.out]; exact ⟨_, rfl, HS.out.mono (fun b hb => ⟨by omega, hb.2⟩) (fun _ _ _ => rfl)⟩)
    | err a c =>
      rw [ho] at hv
      obtain rfl := hv
      have HB2 := Lib.hid hb2
      have HO := Lib.hid ho
      clear hb2 ho
      go_wp2
      go_ret3
      refine ⟨?_, HB.out.trans (HB2.out.mono hsz)⟩
      first
      | rfl
      | (rw [HO.out]; rfl)
end Go.Proofs.YtghgjefobfaodaaDoor

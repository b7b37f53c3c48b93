import Derived.Test.YtghgjefobfaodaaDoorDatRr
import Derived.Test.YtghgjefobfaodaaDoorLexJ
import Derived.Test.YtghgjefobfaodaaDoorDatN
import Derived.Deep.CutRange
namespace Go.Proofs.YtghgjefobfaodaaDoor
open Go.RowKit

theorem Tryd.infoBool : (Tryd.prog.info? 4).map (fun i => (i.zero, i.size, i.bytes)) = some (some (.bool false), 1, 1) := by kernel_rfl

theorem rd_start (w1 : World) (N : Int) (ts : List Tok) (res : RRes) (HR : res = runD N [] [] ts) :
    RdRel w1 N ts res (.slice (some ⟨w1.heap.size, 0, none⟩) 1 1) (.slice (some ⟨w1.heap.size + 1, 0, none⟩) 1 1) (.int .i64 0)
      ((w1.alloc (.cells #[.int .i64 0, .string ⟨#[]⟩, .slice none 0 0] 30)).alloc (.cells #[.bool false] 4)) := by
  refine ⟨0, [], [], 0, w1.heap.size, 1, w1.heap.size + 1, 1, [raw0], rfl, Nat.zero_le _, rfl, by omega, rfl, rfl, Lib.hid HR, Lib.hid ⟨by simp, by simp⟩, ?_, ?_, ?_, ?_, by omega⟩
  · exact Lib.hid (own_whole ((Below.heap_alloc _ _ _ (by simp)).trans (heap_alloc_new w1 _)) (Nat.le_refl _) rfl (by simp [maxLen]) rfl)
  · exact Lib.hid ((RawsOf.none _ _).snoc ⟨rfl, rfl, .mkNil _ _⟩)
  · exact Lib.hid (own_whole (by simpa using heap_alloc_new (w1.alloc (.cells #[.int .i64 0, .string ⟨#[]⟩, .slice none 0 0] 30)) (.cells #[.bool false] 4)) (by omega) rfl (by simp [maxLen]) rfl)
  · exact Lib.hid (((Below.refl _ _).alloc (Nat.le_refl _) _).alloc (by simp) _)
theorem toks_some {w : World} {pa : Option Addr} {n pc : Nat} {l : List Tok} (h : Toks w (.slice pa n pc) l) (hn : n = l.length) (hp : 0 < n) : ∃ b off, pa = some ⟨b, off, none⟩ ∧ b < w.heap.size ∧
    ∀ j, j < n → w.cell? ⟨b, off + j * 3, none⟩ = some (.int .i64 (l.getD j tok0).kind) ∧ w.cell? ⟨b, off + j * 3 + 1, none⟩ = some (.string (l.getD j tok0).text) ∧ w.cell? ⟨b, off + j * 3 + 2, none⟩ = some (.int .i64 (l.getD j tok0).pos) := by
  rcases h with ⟨rfl, a, c, e⟩ | ⟨b, off, cap, e, hb, hm, hc⟩
  · simp at hn; omega
  · cases e
    exact ⟨b, off, rfl, hb, fun j hj => hc j (by omega)⟩
/-- a datum is there, to be laid where it belongs -/
theorem push_start {w1 wr w3 : World} {M D m go capo gq capq : Nat} {P : List Fr × List Dat} {fs : List Fr} {base : List Dat} {dk : Int} {dt : ByteArray} {dl : List Dat} {dsv : Value} {rs : List Raw} (hm : m = fs.length) (h60 : m ≤ 60)
    (HP : P = pushD fs base (.mk dk dt dl)) (HC : CapD M fs base) (hext : ∀ k, k < wr.heap.size → w3.heap[k]? = wr.heap[k]?) (hD : wr.heap.size ≤ D) (hD' : D < w3.heap.size)
    (hd : w3.heap[D]? = some (.cells #[.int .i64 dk, .string dt, dsv] 30 (0, 0))) (hs : SliceOf wr (fun b => w1.heap.size ≤ b ∧ b < wr.heap.size ∧ b ≠ go) dsv dl)
    (HO : wr.ownsRow w1.heap.size 30 3 (.slice (some ⟨go, 0, none⟩) (m + 1) capo) (m + 1) (rawsCells rs)) (HR : RawsOf wr (fun b => w1.heap.size ≤ b ∧ b < wr.heap.size ∧ b ≠ go) rs (opL fs base))
    (HQ : wr.ownsRow w1.heap.size 4 1 (.slice (some ⟨gq, 0, none⟩) (m + 1) capq) (m + 1) ((quL fs).map Value.bool)) (HB : Below w1.heap.size w1 w3) (hne : gq ≠ go) (h1 : w1.heap.size ≤ wr.heap.size) :
    PushRel w1 M D P (.slice (some ⟨go, 0, none⟩) (m + 1) capo) (.slice (some ⟨gq, 0, none⟩) (m + 1) capq) w3 := by
  have lo := own_some_lt HO
  have lq := own_some_lt HQ
  refine ⟨fs, base, dk, dt, dl, m, go, capo, gq, capq, rs, dsv, hm, h60, rfl, rfl, by omega, hD', Lib.hid HP, Lib.hid HC, Lib.hid hd, Lib.hid ?_, Lib.hid ?_, Lib.hid ?_, Lib.hid ?_, Lib.hid HB, hne, by omega, by omega⟩
  · exact hs.mono (fun b hb => ⟨hb.1, by omega, hb.2.2, by omega⟩) (fun b o hb => World.cell?_of_block (hext b hb.2.1))
  · exact own_block HO fun g hg => by cases hg; exact hext _ lo.2
  · exact HR.mono (fun b hb => ⟨hb.1, by omega, hb.2.2, by omega⟩) (fun b o hb => World.cell?_of_block (hext b hb.2.1))
  · exact own_block HQ fun g hg => by cases hg; exact hext _ lq.2

set_option maxRecDepth 100000 in
set_option maxHeartbeats 16000000 in
theorem refRead_any (s : ByteArray) (hs : s.size ≤ 2000) (w : World) :
    Calls Tryd.prog 9 #[.string s] w (RVal w (readN s.size s.data.toList)) := by
  have L := fun w => refLex_any s (by omega) w
  have e0 : s.data.toList.length = s.size := Array.length_toList
  obtain ⟨i0, hi, hz0, hz1, hz2⟩ := info_parts Tryd.infoDat
  obtain ⟨j0, hj, hy0, hy1, hy2⟩ := info_parts Tryd.infoBool
  cases hx : lexN s.size s.data.toList with
  | err p c =>
    rw [hx] at L
    have HL := Lib.hid L
    have hc := lexN_code hx
    have hne : ((c : Int) != 0) = true := by rw [bne_iff_ne]; omega
    have HR : Hid (readN s.size s.data.toList = .err p c) := by show _ = _; unfold readN; rw [hx]
    clear L hx hc
    go_enter Tryd.func9, Tryd.ntmps9
    go_wp2_with fail
    refine (HL.out _).mono ?_
    rintro e w1 ⟨he, hb⟩
    obtain rfl : e = .returned (.tuple #[.slice none 0 0, .int .i64 (p : Int), .int .i64 (c : Int)]) := he
    have HB := Lib.hid hb
    clear hb
    go_wp2
    go_ret3
    rw [HR.out]
    exact ⟨rfl, HB.out⟩
  | ok ts =>
    obtain ⟨hv, hlen⟩ := lex_all hx (by omega)
    rw [hx] at L
    have HL := Lib.hid L
    obtain ⟨res, hres⟩ : ∃ res, res = readN s.size s.data.toList := ⟨_, rfl⟩
    rw [← hres]
    have HR : Hid (res = runD s.size [] [] ts) := by show _ = _; rw [hres]; unfold readN; rw [hx]
    have HV := Lib.hid hv
    clear L hx hv hres
    go_enter Tryd.func9, Tryd.ntmps9
    go_wp2_with fail
    refine (HL.out _).mono ?_
    rintro e w1 ⟨⟨sv, rfl, hT⟩, hb⟩
    obtain ⟨pa, pc, hsv⟩ := toks_one hT
    obtain ⟨n, hn⟩ : ∃ n, n = ts.length := ⟨_, rfl⟩
    rw [← hn] at hsv
    subst hsv
    have HB := Lib.hid hb
    have HT := Lib.hid hT
    have hsz := hb.size
    have HNN := Lib.hid hn
    have hn2 : n ≤ 2000 := by omega
    clear hb hT hn hlen HL
    go_wp2
    go_loopw [8, 9, 10] (fun o q i wr => RdRel w1 s.size ts res o q i wr) (fun _ _ i _ => n - (intOf i).toNat)
    case atStart => exact rd_start w1 _ ts res HR.out
    case round =>
      obtain ⟨k, fs, base, m, go, capo, gq, capq, rs, rfl, hk, hm, hm60, rfl, rfl, HQ, HC, HO, HRW, HOQ, HBW, hne⟩ := hrel
      rw [← HNN.out] at hk
      have hsz1 := HBW.out.size
      by_cases hlt : k < n
      · obtain ⟨b, off, rfl, hbl, hcs⟩ := toks_some HT.out HNN.out (by omega)
        obtain ⟨e1, e2, e3⟩ := hcs k hlt
        have hl2 : k < ts.length := by rw [← HNN.out]; exact hlt
        have hmem : ts.getD k tok0 ∈ ts := by rw [List.getD_eq_getElem?_getD, List.getElem?_eq_getElem hl2, Option.getD_some]; exact List.getElem_mem hl2
        have hdr : ts.drop k = ts.getD k tok0 :: ts.drop (k + 1) := by rw [List.getD_eq_getElem?_getD, List.getElem?_eq_getElem hl2, Option.getD_some]; exact List.drop_eq_getElem_cons hl2
        obtain ⟨⟨t1, t7, t5⟩, tsz⟩ := (HV.out _ hmem).2
        rw [e0] at tsz
        have hq := HQ.out
        rw [hdr] at hq
        obtain ⟨⟨tk, tx, tp⟩, ht⟩ : ∃ t, t = ts.getD k tok0 := ⟨_, rfl⟩
        rw [← ht] at e1 e2 e3 t1 t7 t5 tsz hq
        simp only at e1 e2 e3 t1 t7 t5 tsz
        replace e1 := (HBW.out.cell (p := ⟨b, _, none⟩) hbl).trans e1
        replace e2 := (HBW.out.cell (p := ⟨b, _, none⟩) hbl).trans e2
        replace e3 := (HBW.out.cell (p := ⟨b, _, none⟩) hbl).trans e3
        have HQ := Lib.hid hq
        have H5 := Lib.hid t5
        have h0 : (0 : Int) ≤ (k : Int) := Int.natCast_nonneg _
        have h1 : (k : Int) < (n : Int) := by omega
        have g0 : (0 : Int) ≤ (m : Int) := Int.natCast_nonneg _
        have gk : (((m + 1 : Nat) : Int) - 1) = (m : Int) := by omega
        clear hcs hl2 hmem hdr hq t5 ht
        by_cases k1 : tk = 1
        · have hq := HQ.out
          rw [runD_open _ _ _ _ k1] at hq
          have b1 : (tk == 1) = true := by rw [beq_iff_eq]; exact k1
          have b3 : (tk == 3) = false := by rw [beq_eq_false_iff_ne]; omega
          by_cases h60 : 60 ≤ m
          · rw [if_pos (by rw [← hm]; exact h60)] at hq
            simp only at hq
            have HQ := Lib.hid hq
            have HM := Lib.hid hm
            have g60 : (60 : Int) < ((m + 1 : Nat) : Int) := by omega
            clear k1 hq hm e0 H5 HT HV HR
            as_aux_lemma =>
              go_wp2
              go_quiet (fail)
              go_wp2
              go_ret3
              rw [HQ.out]
              exact ⟨rfl, HB.out.trans ((below_draws ((HBW.out.alloc hsz1 _).alloc (by simp; omega) _) _).mono hsz)⟩
          · rw [if_neg (by rw [← hm]; exact h60)] at hq
            have HQ := Lib.hid hq
            have HM := Lib.hid hm
            have g60 : ¬ (60 : Int) < ((m + 1 : Nat) : Int) := by omega
            obtain ⟨wo, rfl⟩ : ∃ wo : World, wo = wr := ⟨_, rfl⟩
            clear k1 hq hm e0 H5 HT HV HR
            as_aux_lemma =>
              go_wp2
              obtain ⟨wb, hwb⟩ : ∃ wb, wb = ((wo.alloc (.cells #[.int .i64 tk, .string tx, .int .i64 tp] 47)).alloc (.cells #[.int .i64 (tk - 3), .string tx, .slice none 0 0] 30)).alloc (.cells #[.int .i64 5, .string ⟨#[]⟩, .slice none 0 0] 30) := ⟨_, rfl⟩
              rw [← hwb]
              have hbel : Below wo.heap.size wo wb := by rw [hwb]; exact ((((Below.refl wo.heap.size wo).alloc (Nat.le_refl _) (.cells #[.int .i64 tk, .string tx, .int .i64 tp] 47)).alloc (by simp) (.cells #[.int .i64 (tk - 3), .string tx, .slice none 0 0] 30)).alloc (by simp; omega) (.cells #[.int .i64 5, .string ⟨#[]⟩, .slice none 0 0] 30))
              have hzb : wo.heap.size + 1 + 1 < wb.heap.size := by rw [hwb]; simp
              have hx : wb.heap[wo.heap.size + 1 + 1]? = some (.cells #[.int .i64 5, .string ⟨#[]⟩, .slice none 0 0] 30 (0, 0)) := by rw [hwb]; exact alloc_at (by simp)
              have ht : wb.heap[wo.heap.size]? = some (.cells #[.int .i64 tk, .string tx, .int .i64 tp] 47 (0, 0)) := by rw [hwb]; exact alloc_past (alloc_past (alloc_at (by simp)) (by simp)) (by simp; omega)
              have hS : SliceOf wb (fun b => wo.heap.size ≤ b ∧ b < wb.heap.size) (.slice none 0 0) [] := .mkNil _ _
              have lo := own_some_lt HO.out
              have lq := own_some_lt HOQ.out
              have hsrc : ∀ w' : World, Below wb.heap.size wb w' → (m + 1 = 0 ∧ (some (⟨go, 0, none⟩ : Addr)) = none) ∨ ∃ a, some (⟨go, 0, none⟩ : Addr) = some a ∧ ∀ j u, (rawsCells rs)[j]? = some u → w'.cell? (a.add j) = some u := fun w' hb' =>
                .inr ⟨_, rfl, fun j u hu => @World.ownsRow.cells _ _ _ _ _ _ _ (own_block HO.out (w' := w') fun g hg => by cases hg; exact (hb'.block _ (show go < wb.heap.size by omega)).trans (hbel.block _ lo.2)) _ rfl j u hu⟩
              have hone := raws_one HRW.out
              have x0 : wb.cell? ⟨wo.heap.size + 1 + 1, 0, none⟩ = some (.int .i64 5) := Lib.cell_of_heap hx 0
              have x1 : wb.cell? ⟨wo.heap.size + 1 + 1, 1, none⟩ = some (.string ⟨#[]⟩) := Lib.cell_of_heap hx 1
              have x2 : wb.cell? ⟨wo.heap.size + 1 + 1, 2, none⟩ = some (.slice none 0 0) := Lib.cell_of_heap hx 2
              have HBEL := Lib.hid hbel
              have HT2 := Lib.hid ht
              have HS2 := Lib.hid hS
              have HSRC := Lib.hid hsrc
              have HONE := Lib.hid hone
              clear hbel ht hS hsrc hone hx hwb lo lq
              go_cut [8] from 65 to 70 (fun o W => OpRel wb m rs (.slice none 0 0) o W)
              case first =>
                rename_i hR hM
                go_region_held3 (fun W => W.cell? ⟨wo.heap.size + 1 + 1, 0, none⟩ = some (.int .i64 5) ∧ W.cell? ⟨wo.heap.size + 1 + 1, 1, none⟩ = some (.string ⟨#[]⟩) ∧ W.cell? ⟨wo.heap.size + 1 + 1, 2, none⟩ = some (.slice none 0 0))
                  (first | go_keep | exact ⟨xC0, xC1, xC2⟩ | exact ⟨xA0, xA1, xA2⟩)
                  (first
                    | (refine step_copy _ (by rfl) (.tmp 65) (.tmp 66) _ (by rfl) 30 i0 _ 3 48 Tryd.underlying23 hi hz0 hz1 hz2 rfl (by omega) _ (by rfl) (by first | (refine alloc_at ?_; simp; done) | (refine alloc_past (alloc_at ?_) ?_ <;> (try simp) <;> (try omega); done)) wb wb.heap.size (by simp) (by repeat (first | exact Below.refl _ _ | refine Below.drew ?_ | refine Below.alloc ?_ (by simp) _)) (some ⟨go, 0, none⟩) (m + 1) capo (rawsCells rs) (by rfl) HO.out.1 HSRC.out HONE.out (by unfold maxLen; omega) (by omega) ?_
                       intro g1 cap1 wA ownA belA szA extA
                       have xA0 : wA.cell? ⟨wo.heap.size + 1 + 1, 0, none⟩ = some (.int .i64 5) := (belA.cell (p := ⟨_, 0, none⟩) hzb).trans x0
                       have xA1 : wA.cell? ⟨wo.heap.size + 1 + 1, 1, none⟩ = some (.string ⟨#[]⟩) := (belA.cell (p := ⟨_, 1, none⟩) hzb).trans x1
                       have xA2 : wA.cell? ⟨wo.heap.size + 1 + 1, 2, none⟩ = some (.slice none 0 0) := (belA.cell (p := ⟨_, 2, none⟩) hzb).trans x2)
                    | (refine step_snoc _ (by rfl) (.tmp 67) (.tmp 69) _ (by rfl) 30 i0 _ 3 48 Tryd.underlying23 hi hz0 hz1 hz2 rfl (by omega) g1 cap1 (m + 1) (rawsCells rs) (by rfl) wb wb.heap.size (by first | exact ownA | exact ownA.alloc _) (by first | exact belA | exact belA.alloc belA.size _) _ 1 [.int .i64 5, .string ⟨#[]⟩, .slice none 0 0] (by rfl) (by rfl) (by first | (refine alloc_at ?_; simp; done) | (refine (extA _ ?_ ?_).trans (alloc_at ?_) <;> (try simp) <;> (try omega); done) | (refine (extA _ ?_ ?_).trans (alloc_past (alloc_at ?_) ?_) <;> (try simp) <;> (try omega); done)) (by simp [Value.oneCell']) (by unfold maxLen; omega) (by omega) ?_
                       intro gC capC wC ownC belC
                       have xC0 : wC.cell? ⟨wo.heap.size + 1 + 1, 0, none⟩ = some (.int .i64 5) := (belC.cell (p := ⟨_, 0, none⟩) hzb).trans x0
                       have xC1 : wC.cell? ⟨wo.heap.size + 1 + 1, 1, none⟩ = some (.string ⟨#[]⟩) := (belC.cell (p := ⟨_, 1, none⟩) hzb).trans x1
                       have xC2 : wC.cell? ⟨wo.heap.size + 1 + 1, 2, none⟩ = some (.slice none 0 0) := (belC.cell (p := ⟨_, 2, none⟩) hzb).trans x2))
                all_goals
                  refine hM _ _ (Met.intro (hR _ _ ?_))
                  (repeat apply Exists.intro)
                  exact ⟨⟨_, _, rfl, Lib.hid ownC, Lib.hid belC, belC.size⟩, rfl⟩
              case rest =>
                obtain ⟨g2, cap2, rfl, HOC, HBC, hzc⟩ := hcut
                have hzo : wo.heap.size < wc.heap.size := by omega
                have hqsrc : ∀ w' : World, Below wc.heap.size wc w' → (m + 1 = 0 ∧ (some (⟨gq, 0, none⟩ : Addr)) = none) ∨ ∃ a, some (⟨gq, 0, none⟩ : Addr) = some a ∧ ∀ j u, ((quL fs).map Value.bool)[j]? = some u → w'.cell? (a.add j) = some u := fun w' hb' =>
                  .inr ⟨_, rfl, fun j u hu => @World.ownsRow.cells _ _ _ _ _ _ _ (own_block HOQ.out (w' := w') fun g hg => by
                    cases hg
                    have lq := (own_some_lt HOQ.out).2
                    have zq := HBEL.out.size
                    exact (hb'.block _ (show gq < wc.heap.size by omega)).trans ((HBC.out.block _ (show gq < wb.heap.size by omega)).trans (HBEL.out.block _ lq))) _ rfl j u hu⟩
                have hqone : ∀ u ∈ (quL fs).map Value.bool, u.oneCell' = true := fun u hu => by
                  obtain ⟨x, _, rfl⟩ := List.mem_map.1 hu
                  rfl
                have y0 : wc.cell? ⟨wo.heap.size, 0, none⟩ = some (.int .i64 tk) := (HBC.out.cell (p := ⟨wo.heap.size, 0, none⟩) (show wo.heap.size < wb.heap.size by omega)).trans (Lib.cell_of_heap HT2.out 0)
                have HQSRC := Lib.hid hqsrc
                have HQONE := Lib.hid hqone
                clear hqsrc hqone x0 x1 x2
                go_wp2
                go_region_held3 (fun W => W.cell? ⟨wo.heap.size, 0, none⟩ = some (.int .i64 tk))
                  (first | go_keep | exact yC0 | exact yA0)
                  (first
                    | (refine step_copy _ (by rfl) (.tmp 71) (.tmp 72) _ (by rfl) 4 j0 _ 1 1 Tryd.underlying45 hj hy0 hy1 hy2 rfl (by omega) _ (by rfl) (by first | (refine alloc_at ?_; simp; done) | (refine alloc_past (alloc_at ?_) ?_ <;> (try simp) <;> (try omega); done)) wc wc.heap.size (by simp) (by repeat (first | exact Below.refl _ _ | refine Below.drew ?_ | refine Below.alloc ?_ (by simp) _)) (some ⟨gq, 0, none⟩) (m + 1) capq ((quL fs).map Value.bool) (by rfl) HOQ.out.1 HQSRC.out HQONE.out (by unfold maxLen; omega) (by omega) ?_
                       intro g1 cap1 wA ownA belA szA extA
                       have yA0 : wA.cell? ⟨wo.heap.size, 0, none⟩ = some (.int .i64 tk) := (belA.cell (p := ⟨_, 0, none⟩) hzo).trans y0)
                    | (refine step_snoc _ (by rfl) (.tmp 73) (.tmp 77) _ (by rfl) 4 j0 _ 1 1 Tryd.underlying45 hj hy0 hy1 hy2 rfl (by omega) g1 cap1 (m + 1) ((quL fs).map Value.bool) (by rfl) wc wc.heap.size (by first | exact ownA | exact ownA.alloc _) (by first | exact belA | exact belA.alloc belA.size _) _ 1 [.bool false] (by rfl) (by rfl) (by first | (refine alloc_at ?_; simp; done) | (refine (extA _ ?_ ?_).trans (alloc_at ?_) <;> (try simp) <;> (try omega); done) | (refine (extA _ ?_ ?_).trans (alloc_past (alloc_at ?_) ?_) <;> (try simp) <;> (try omega); done)) (by simp [Value.oneCell']) (by unfold maxLen; omega) (by omega) ?_
                       intro gC capC wC ownC belC
                       have yC0 : wC.cell? ⟨wo.heap.size, 0, none⟩ = some (.int .i64 tk) := (belC.cell (p := ⟨_, 0, none⟩) hzo).trans y0))
                all_goals
                  have OWNC := Lib.hid ownC
                  have BELC := Lib.hid belC
                  clear ownC belC
                  go_wp2
                  exact ⟨rd_open (by have := HNN.out; omega) HM.out (by omega) HC.out HQ.out (by simp) HRW.out HBW.out HBEL.out HS2.out HOC.out HBC.out OWNC.out BELC.out, by simp [intOf]; omega⟩
        by_cases k3 : tk = 3
        · have hq := HQ.out
          rw [runD_quote _ _ _ _ k3] at hq
          have b1 : (tk == 1) = false := by rw [beq_eq_false_iff_ne]; exact k1
          have b3 : (tk == 3) = true := by rw [beq_iff_eq]; exact k3
          by_cases h60 : 60 ≤ m
          · rw [if_pos (by rw [← hm]; exact h60)] at hq
            simp only at hq
            have HQ := Lib.hid hq
            have HM := Lib.hid hm
            have g60 : (60 : Int) < ((m + 1 : Nat) : Int) := by omega
            clear k1 k3 hq hm e0 H5 HT HV HR
            as_aux_lemma =>
              go_wp2
              go_quiet (fail)
              go_wp2
              go_ret3
              rw [HQ.out]
              exact ⟨rfl, HB.out.trans ((below_draws ((HBW.out.alloc hsz1 _).alloc (by simp; omega) _) _).mono hsz)⟩
          · rw [if_neg (by rw [← hm]; exact h60)] at hq
            have HQ := Lib.hid hq
            have HM := Lib.hid hm
            have g60 : ¬ (60 : Int) < ((m + 1 : Nat) : Int) := by omega
            obtain ⟨wo, rfl⟩ : ∃ wo : World, wo = wr := ⟨_, rfl⟩
            clear k1 k3 hq hm e0 H5 HT HV HR
            as_aux_lemma =>
              go_wp2
              obtain ⟨wb, hwb⟩ : ∃ wb, wb = (((wo.alloc (.cells #[.int .i64 tk, .string tx, .int .i64 tp] 47)).alloc (.cells #[.int .i64 (tk - 3), .string tx, .slice none 0 0] 30)).alloc (.cells #[.int .i64 5, .string ⟨#[]⟩, .slice (some ⟨wo.heap.size + 1 + 1 + 1, 0, none⟩) 1 1] 30)).alloc (.cells #[.int .i64 1, .string ⟨#[113, 117, 111, 116, 101]⟩, .slice none 0 0] 30) := ⟨_, rfl⟩
              rw [← hwb]
              have hbel : Below wo.heap.size wo wb := by rw [hwb]; exact (((((Below.refl wo.heap.size wo).alloc (Nat.le_refl _) (.cells #[.int .i64 tk, .string tx, .int .i64 tp] 47)).alloc (by simp) (.cells #[.int .i64 (tk - 3), .string tx, .slice none 0 0] 30)).alloc (by simp; omega) (.cells #[.int .i64 5, .string ⟨#[]⟩, .slice (some ⟨wo.heap.size + 1 + 1 + 1, 0, none⟩) 1 1] 30)).alloc (by simp; omega) (.cells #[.int .i64 1, .string ⟨#[113, 117, 111, 116, 101]⟩, .slice none 0 0] 30))
              have hzb : wo.heap.size + 1 + 1 < wb.heap.size := by rw [hwb]; simp
              have hx : wb.heap[wo.heap.size + 1 + 1]? = some (.cells #[.int .i64 5, .string ⟨#[]⟩, .slice (some ⟨wo.heap.size + 1 + 1 + 1, 0, none⟩) 1 1] 30 (0, 0)) := by rw [hwb]; exact alloc_past (alloc_at (by simp)) (by simp)
              have ht : wb.heap[wo.heap.size]? = some (.cells #[.int .i64 tk, .string tx, .int .i64 tp] 47 (0, 0)) := by rw [hwb]; exact alloc_past (alloc_past (alloc_past (alloc_at (by simp)) (by simp)) (by simp; omega)) (by simp; omega)
              have hS : SliceOf wb (fun b => wo.heap.size ≤ b ∧ b < wb.heap.size) (.slice (some ⟨wo.heap.size + 1 + 1 + 1, 0, none⟩) 1 1) [quoteD] := quote_slice (by rw [hwb]; exact alloc_at (by simp)) ⟨by omega, by rw [hwb]; simp⟩
              have lo := own_some_lt HO.out
              have lq := own_some_lt HOQ.out
              have hsrc : ∀ w' : World, Below wb.heap.size wb w' → (m + 1 = 0 ∧ (some (⟨go, 0, none⟩ : Addr)) = none) ∨ ∃ a, some (⟨go, 0, none⟩ : Addr) = some a ∧ ∀ j u, (rawsCells rs)[j]? = some u → w'.cell? (a.add j) = some u := fun w' hb' =>
                .inr ⟨_, rfl, fun j u hu => @World.ownsRow.cells _ _ _ _ _ _ _ (own_block HO.out (w' := w') fun g hg => by cases hg; exact (hb'.block _ (show go < wb.heap.size by omega)).trans (hbel.block _ lo.2)) _ rfl j u hu⟩
              have hone := raws_one HRW.out
              have x0 : wb.cell? ⟨wo.heap.size + 1 + 1, 0, none⟩ = some (.int .i64 5) := Lib.cell_of_heap hx 0
              have x1 : wb.cell? ⟨wo.heap.size + 1 + 1, 1, none⟩ = some (.string ⟨#[]⟩) := Lib.cell_of_heap hx 1
              have x2 : wb.cell? ⟨wo.heap.size + 1 + 1, 2, none⟩ = some (.slice (some ⟨wo.heap.size + 1 + 1 + 1, 0, none⟩) 1 1) := Lib.cell_of_heap hx 2
              have HBEL := Lib.hid hbel
              have HT2 := Lib.hid ht
              have HS2 := Lib.hid hS
              have HSRC := Lib.hid hsrc
              have HONE := Lib.hid hone
              clear hbel ht hS hsrc hone hx hwb lo lq
              go_cut [8] from 65 to 70 (fun o W => OpRel wb m rs (.slice (some ⟨wo.heap.size + 1 + 1 + 1, 0, none⟩) 1 1) o W)
              case first =>
                rename_i hR hM
                go_region_held3 (fun W => W.cell? ⟨wo.heap.size + 1 + 1, 0, none⟩ = some (.int .i64 5) ∧ W.cell? ⟨wo.heap.size + 1 + 1, 1, none⟩ = some (.string ⟨#[]⟩) ∧ W.cell? ⟨wo.heap.size + 1 + 1, 2, none⟩ = some (.slice (some ⟨wo.heap.size + 1 + 1 + 1, 0, none⟩) 1 1))
                  (first | go_keep | exact ⟨xC0, xC1, xC2⟩ | exact ⟨xA0, xA1, xA2⟩)
                  (first
                    | (refine step_copy _ (by rfl) (.tmp 65) (.tmp 66) _ (by rfl) 30 i0 _ 3 48 Tryd.underlying23 hi hz0 hz1 hz2 rfl (by omega) _ (by rfl) (by first | (refine alloc_at ?_; simp; done) | (refine alloc_past (alloc_at ?_) ?_ <;> (try simp) <;> (try omega); done)) wb wb.heap.size (by simp) (by repeat (first | exact Below.refl _ _ | refine Below.drew ?_ | refine Below.alloc ?_ (by simp) _)) (some ⟨go, 0, none⟩) (m + 1) capo (rawsCells rs) (by rfl) HO.out.1 HSRC.out HONE.out (by unfold maxLen; omega) (by omega) ?_
                       intro g1 cap1 wA ownA belA szA extA
                       have xA0 : wA.cell? ⟨wo.heap.size + 1 + 1, 0, none⟩ = some (.int .i64 5) := (belA.cell (p := ⟨_, 0, none⟩) hzb).trans x0
                       have xA1 : wA.cell? ⟨wo.heap.size + 1 + 1, 1, none⟩ = some (.string ⟨#[]⟩) := (belA.cell (p := ⟨_, 1, none⟩) hzb).trans x1
                       have xA2 : wA.cell? ⟨wo.heap.size + 1 + 1, 2, none⟩ = some (.slice (some ⟨wo.heap.size + 1 + 1 + 1, 0, none⟩) 1 1) := (belA.cell (p := ⟨_, 2, none⟩) hzb).trans x2)
                    | (refine step_snoc _ (by rfl) (.tmp 67) (.tmp 69) _ (by rfl) 30 i0 _ 3 48 Tryd.underlying23 hi hz0 hz1 hz2 rfl (by omega) g1 cap1 (m + 1) (rawsCells rs) (by rfl) wb wb.heap.size (by first | exact ownA | exact ownA.alloc _) (by first | exact belA | exact belA.alloc belA.size _) _ 1 [.int .i64 5, .string ⟨#[]⟩, .slice (some ⟨wo.heap.size + 1 + 1 + 1, 0, none⟩) 1 1] (by rfl) (by rfl) (by first | (refine alloc_at ?_; simp; done) | (refine (extA _ ?_ ?_).trans (alloc_at ?_) <;> (try simp) <;> (try omega); done) | (refine (extA _ ?_ ?_).trans (alloc_past (alloc_at ?_) ?_) <;> (try simp) <;> (try omega); done)) (by simp [Value.oneCell']) (by unfold maxLen; omega) (by omega) ?_
                       intro gC capC wC ownC belC
                       have xC0 : wC.cell? ⟨wo.heap.size + 1 + 1, 0, none⟩ = some (.int .i64 5) := (belC.cell (p := ⟨_, 0, none⟩) hzb).trans x0
                       have xC1 : wC.cell? ⟨wo.heap.size + 1 + 1, 1, none⟩ = some (.string ⟨#[]⟩) := (belC.cell (p := ⟨_, 1, none⟩) hzb).trans x1
                       have xC2 : wC.cell? ⟨wo.heap.size + 1 + 1, 2, none⟩ = some (.slice (some ⟨wo.heap.size + 1 + 1 + 1, 0, none⟩) 1 1) := (belC.cell (p := ⟨_, 2, none⟩) hzb).trans x2))
                all_goals
                  refine hM _ _ (Met.intro (hR _ _ ?_))
                  (repeat apply Exists.intro)
                  exact ⟨⟨_, _, rfl, Lib.hid ownC, Lib.hid belC, belC.size⟩, rfl⟩
              case rest =>
                obtain ⟨g2, cap2, rfl, HOC, HBC, hzc⟩ := hcut
                have hzo : wo.heap.size < wc.heap.size := by omega
                have hqsrc : ∀ w' : World, Below wc.heap.size wc w' → (m + 1 = 0 ∧ (some (⟨gq, 0, none⟩ : Addr)) = none) ∨ ∃ a, some (⟨gq, 0, none⟩ : Addr) = some a ∧ ∀ j u, ((quL fs).map Value.bool)[j]? = some u → w'.cell? (a.add j) = some u := fun w' hb' =>
                  .inr ⟨_, rfl, fun j u hu => @World.ownsRow.cells _ _ _ _ _ _ _ (own_block HOQ.out (w' := w') fun g hg => by
                    cases hg
                    have lq := (own_some_lt HOQ.out).2
                    have zq := HBEL.out.size
                    exact (hb'.block _ (show gq < wc.heap.size by omega)).trans ((HBC.out.block _ (show gq < wb.heap.size by omega)).trans (HBEL.out.block _ lq))) _ rfl j u hu⟩
                have hqone : ∀ u ∈ (quL fs).map Value.bool, u.oneCell' = true := fun u hu => by
                  obtain ⟨x, _, rfl⟩ := List.mem_map.1 hu
                  rfl
                have y0 : wc.cell? ⟨wo.heap.size, 0, none⟩ = some (.int .i64 tk) := (HBC.out.cell (p := ⟨wo.heap.size, 0, none⟩) (show wo.heap.size < wb.heap.size by omega)).trans (Lib.cell_of_heap HT2.out 0)
                have HQSRC := Lib.hid hqsrc
                have HQONE := Lib.hid hqone
                clear hqsrc hqone x0 x1 x2
                go_wp2
                go_region_held3 (fun W => W.cell? ⟨wo.heap.size, 0, none⟩ = some (.int .i64 tk))
                  (first | go_keep | exact yC0 | exact yA0)
                  (first
                    | (refine step_copy _ (by rfl) (.tmp 71) (.tmp 72) _ (by rfl) 4 j0 _ 1 1 Tryd.underlying45 hj hy0 hy1 hy2 rfl (by omega) _ (by rfl) (by first | (refine alloc_at ?_; simp; done) | (refine alloc_past (alloc_at ?_) ?_ <;> (try simp) <;> (try omega); done)) wc wc.heap.size (by simp) (by repeat (first | exact Below.refl _ _ | refine Below.drew ?_ | refine Below.alloc ?_ (by simp) _)) (some ⟨gq, 0, none⟩) (m + 1) capq ((quL fs).map Value.bool) (by rfl) HOQ.out.1 HQSRC.out HQONE.out (by unfold maxLen; omega) (by omega) ?_
                       intro g1 cap1 wA ownA belA szA extA
                       have yA0 : wA.cell? ⟨wo.heap.size, 0, none⟩ = some (.int .i64 tk) := (belA.cell (p := ⟨_, 0, none⟩) hzo).trans y0)
                    | (refine step_snoc _ (by rfl) (.tmp 73) (.tmp 77) _ (by rfl) 4 j0 _ 1 1 Tryd.underlying45 hj hy0 hy1 hy2 rfl (by omega) g1 cap1 (m + 1) ((quL fs).map Value.bool) (by rfl) wc wc.heap.size (by first | exact ownA | exact ownA.alloc _) (by first | exact belA | exact belA.alloc belA.size _) _ 1 [.bool true] (by rfl) (by rfl) (by first | (refine alloc_at ?_; simp; done) | (refine (extA _ ?_ ?_).trans (alloc_at ?_) <;> (try simp) <;> (try omega); done) | (refine (extA _ ?_ ?_).trans (alloc_past (alloc_at ?_) ?_) <;> (try simp) <;> (try omega); done)) (by simp [Value.oneCell']) (by unfold maxLen; omega) (by omega) ?_
                       intro gC capC wC ownC belC
                       have yC0 : wC.cell? ⟨wo.heap.size, 0, none⟩ = some (.int .i64 tk) := (belC.cell (p := ⟨_, 0, none⟩) hzo).trans y0))
                all_goals
                  have OWNC := Lib.hid ownC
                  have BELC := Lib.hid belC
                  clear ownC belC
                  go_wp2
                  exact ⟨rd_open (by have := HNN.out; omega) HM.out (by omega) HC.out HQ.out (by simp) HRW.out HBW.out HBEL.out HS2.out HOC.out HBC.out OWNC.out BELC.out, by simp [intOf]; omega⟩
        by_cases k2 : tk = 2
        · have hq := HQ.out
          have b1 : (tk == 1) = false := by rw [beq_eq_false_iff_ne]; exact k1
          have b3 : (tk == 3) = false := by rw [beq_eq_false_iff_ne]; exact k3
          have b2 : (tk == 2) = true := by rw [beq_iff_eq]; exact k2
          have b5 : (tk == 5) = false := by rw [beq_eq_false_iff_ne]; omega
          by_cases hbad : fs = [] ∨ ∃ es fs', fs = (true, es) :: fs'
          · rw [runD_close_bad _ _ _ _ k2 hbad] at hq
            simp only at hq
            have HQ := Lib.hid hq
            have qc := quo_top HOQ.out hm
            have hgq := (own_some_lt HOQ.out).2
            by_cases m0 : m = 0
            · subst m0
              clear k1 k3 k2 hq hm e0 H5 HT HV HR hbad qc
              as_aux_lemma =>
                go_wp2
                go_quiet (fail)
                go_wp2
                go_ret3
                rw [HQ.out]
                exact ⟨rfl, HB.out.trans ((below_draws ((HBW.out.alloc hsz1 _).alloc (by simp; omega) _) _).mono hsz)⟩
            · have hqt : quOf fs = true := by
                rcases hbad with rfl | ⟨es, fs', rfl⟩
                · exact absurd hm m0
                · rfl
              rw [hqt] at qc
              have g1 : ((m : Int) + 1 == 1) = false := by rw [beq_eq_false_iff_ne]; omega
              have HM := Lib.hid hm
              have M0 := Lib.hid m0
              clear k1 k3 k2 hq hm e0 H5 HT HV HR hbad hqt m0
              as_aux_lemma =>
                go_wp2
                go_quiet (fail)
                go_wp2
                go_ret3
                rw [HQ.out]
                exact ⟨rfl, HB.out.trans ((below_draws ((HBW.out.alloc hsz1 _).alloc (by simp; omega) _) _).mono hsz)⟩
          · obtain ⟨es, r, rfl⟩ : ∃ es r, fs = (false, es) :: r := by
              match fs, hbad with
              | [], h => exact absurd (.inl rfl) h
              | (true, es) :: r, h => exact absurd (.inr ⟨_, _, rfl⟩) h
              | (false, es) :: r, _ => exact ⟨_, _, rfl⟩
            rw [runD_close _ _ _ _ k2] at hq
            have qc := quo_top HOQ.out hm
            have hgq := (own_some_lt HOQ.out).2
            obtain ⟨rs3, ad, c, lrs, hrs3, hl3, h31, hs3, hlrs, hsrc, c0, c1, c2, cf, hb1, hb2⟩ := open_top HO.out HRW.out hm
            obtain ⟨m3, hm3⟩ : ∃ m3, m3 = r.length := ⟨_, rfl⟩
            obtain rfl : m = m3 + 1 := by rw [hm, hm3]; simp
            obtain ⟨q, hqq⟩ : ∃ q, q = (listOf ((false, es) :: r) base).length := ⟨_, rfl⟩
            rw [← hqq] at c2 hs3 hrs3
            obtain ⟨P, hP⟩ : ∃ P, P = pushD r base (listD es) := ⟨_, rfl⟩
            rw [← hP] at hq
            have hcap := own_cap HO.out
            have hcapq := own_cap HOQ.out
            replace qc : wr.cell? ⟨gq, m3 + 1, none⟩ = some (.bool false) := qc
            replace c0 : wr.cell? ⟨go, (m3 + 1) * 3, none⟩ = some (.int .i64 5) := c0
            have g1 : ((m3 : Int) + 1 + 1 == 1) = false := by rw [beq_eq_false_iff_ne]; omega
            have HP := Lib.hid hP
            have HQ := Lib.hid hq
            have HM := Lib.hid hm3
            have HRS3 := Lib.hid hrs3
            have HL3 := Lib.hid hl3
            have H31 := Lib.hid h31
            have HS3 := Lib.hid hs3
            have HQQ := Lib.hid hqq
            have hop := own_pop (by have h := HO.out; rw [hrs3, rawsCells_app] at h; exact h) (m3 + 1) (by omega) (by rw [rawsCells_len, hl3])
            have hqp := own_pop (by have h := HOQ.out; rw [quL_cons, List.map_append] at h; exact h) (m3 + 1) (by omega) (by rw [List.length_map, quL_len, ← hm3]; omega)
            have HOP := Lib.hid hop
            have HQP := Lib.hid hqp
            obtain ⟨wo, rfl⟩ : ∃ wo : World, wo = wr := ⟨_, rfl⟩
            clear hop hqp k1 k3 k2 hq hm hm3 e0 H5 HT HV HR hbad hP hrs3 hl3 h31 hs3 hlrs hsrc cf hqq
            as_aux_lemma =>
              go_wp2
              go_loopw [8, 9] (fun o q wq => PushRel w1 (k + 1) (wo.heap.size + 1) P o q wq) (fun o _ _ => lenV o)
              case atStart =>
                exact push_start (dl := es) HM.out (by omega) HP.out HC.out.tail (fun j hj => by rw [Below.heap_alloc _ _ _ (by simp; omega), Below.heap_alloc _ _ _ hj]) (by omega) (by simp) (by simpa using heap_alloc_new (wo.alloc (.cells #[.int .i64 tk, .string tx, .int .i64 tp] 47)) (.cells #[.int .i64 5, .string ⟨#[]⟩, .slice ad q c] 30)) HS3.out HOP.out H31.out HQP.out ((HBW.out.alloc hsz1 _).alloc (by simp; omega) _) hne hsz1
              case round =>
                obtain ⟨fs2, base2, dk, dt, dl, m2, g2, capo2, q2, capq2, rs2, dsv, hm2, hm260, rfl, rfl, hDg, hDl, HP2, HC2, HDc, HDS, HO2, HRW2, HOQ2, HBW2, hne2, hqD, h1D⟩ := hrel
                obtain ⟨rs3, ad, c, lrs, hrs3, hl3, h31, hs3, hlrs, hsrc, c0, c1, c2, cf, hb1, hb2⟩ := open_top HO2.out HRW2.out hm2
                obtain ⟨q, hq⟩ : ∃ q, q = (listOf fs2 base2).length := ⟨_, rfl⟩
                obtain ⟨kd, hkd⟩ : ∃ kd, kd = kindOf fs2 := ⟨_, rfl⟩
                rw [← hq] at c2 hs3 hrs3 hsrc
                rw [← hkd] at c0 hrs3
                have gk2 : (((m2 + 1 : Nat) : Int) - 1) = (m2 : Int) := by omega
                have g02 : (0 : Int) ≤ (m2 : Int) := Int.natCast_nonneg _
                have hszq := HBW2.out.size
                have HM2 := Lib.hid hm2
                have HKD := Lib.hid hkd
                have HRS3 := Lib.hid hrs3
                have HL3 := Lib.hid hl3
                have H31 := Lib.hid h31
                have HS3 := Lib.hid hs3
                have HLR := Lib.hid hlrs
                have HSRC := Lib.hid hsrc
                have HQL := Lib.hid hq
                have HCF := Lib.hid cf
                have HC0 := Lib.hid c0
                have HC1 := Lib.hid c1
                have HC22 := Lib.hid c2
                have hqk : q ≤ k + 1 := by rw [hq]; exact HC2.out.list
                obtain ⟨da, dc, hdv⟩ := HDS.out.val
                obtain ⟨dn, hdn⟩ : ∃ dn, dn = dl.length := ⟨_, rfl⟩
                rw [← hdn] at hdv
                subst hdv
                have HDN := Lib.hid hdn
                clear hm2 hkd hrs3 hl3 h31 hs3 hlrs hsrc hq cf hdn
                go_wp2
                obtain ⟨wb, hwb⟩ : ∃ wb, wb = wr.alloc (.cells #[.int .i64 kd, .string ⟨#[]⟩, .slice ad q c] 30) := ⟨_, rfl⟩
                rw [← hwb]
                obtain ⟨H, hH⟩ : ∃ H, H = wr.heap.size := ⟨_, rfl⟩
                rw [← hH]
                have hHb : H < wb.heap.size := by rw [hwb, hH]; simp
                have hDb : wo.heap.size + 1 < wb.heap.size := by omega
                have b15 : wb.heap[H]? = some (.cells #[.int .i64 kd, .string ⟨#[]⟩, .slice ad q c] 30 (0, 0)) := by rw [hwb, hH]; exact heap_alloc_new _ _
                have b12 : wb.heap[wo.heap.size + 1]? = some (.cells #[.int .i64 dk, .string dt, .slice da dn dc] 30 (0, 0)) := by rw [hwb, Below.heap_alloc _ _ _ hDl]; exact HDc.out
                have hsrcb : ∀ w' : World, Below wb.heap.size wb w' → (q = 0 ∧ ad = none) ∨ ∃ a, ad = some a ∧ ∀ j u, (rawsCells lrs)[j]? = some u → w'.cell? (a.add j) = some u := fun w' hb' => HSRC.out w' fun b o hb => (hb'.cell (p := ⟨b, o, none⟩) (by show b < wb.heap.size; omega)).trans (World.cell?_of_block (w := wr) (by rw [hwb]; exact Below.heap_alloc _ _ _ hb.2.1))
                have HSB := Lib.hid hsrcb
                have B15 := Lib.hid b15
                have B12 := Lib.hid b12
                have HWB := Lib.hid hwb
                have HHW := Lib.hid hH
                have a0 : wb.cell? ⟨H, 2, none⟩ = some (.slice ad q c) := Lib.cell_of_heap b15 2
                have d0 : wb.cell? ⟨wo.heap.size + 1, 0, none⟩ = some (.int .i64 dk) := Lib.cell_of_heap b12 0
                have d1 : wb.cell? ⟨wo.heap.size + 1, 1, none⟩ = some (.string dt) := Lib.cell_of_heap b12 1
                have d2 : wb.cell? ⟨wo.heap.size + 1, 2, none⟩ = some (.slice da dn dc) := Lib.cell_of_heap b12 2
                have hrl : (rawsCells lrs).length = q * 3 := by rw [rawsCells_len, HLR.out.1, HQL.out]
                have HRL := Lib.hid hrl
                have hone := raws_one HLR.out
                have HONE := Lib.hid hone
                clear hsrcb b15 b12 hwb hH hrl hone c0 c1 c2
                have hHlt : H < wb.heap.size := hHb
                go_cut [] from 131 to 138 (fun W => AppRel wr q lrs kd dk dt (.slice da dn dc) W)
                case first =>
                  rename_i hR hM
                  go_region_law (first
                    | (refine step_copy _ (by rfl) (.tmp 131) (.tmp 133) _ (by rfl) 30 i0 _ 3 48 Tryd.underlying23 hi hz0 hz1 hz2 rfl (by omega) _ (by rfl) (by first | (refine alloc_at ?_; simp; done) | (refine alloc_past (alloc_at ?_) ?_ <;> (try simp) <;> (try omega); done)) wb wb.heap.size (by simp) (by repeat (first | exact Below.refl _ _ | refine Below.drew ?_ | refine Below.alloc ?_ (by simp) _)) ad q c (rawsCells lrs) (by rfl) HRL.out HSB.out HONE.out (by unfold maxLen; omega) (by omega) ?_
                       intro g1 cap1 wA ownA belA szA extA
                       have aA : wA.cell? ⟨H, 2, none⟩ = some (.slice ad q c) := (belA.cell (p := ⟨H, 2, none⟩) hHb).trans a0
                       have dA0 : wA.cell? ⟨wo.heap.size + 1, 0, none⟩ = some (.int .i64 dk) := (belA.cell (p := ⟨_, 0, none⟩) hDb).trans d0
                       have dA1 : wA.cell? ⟨wo.heap.size + 1, 1, none⟩ = some (.string dt) := (belA.cell (p := ⟨_, 1, none⟩) hDb).trans d1
                       have dA2 : wA.cell? ⟨wo.heap.size + 1, 2, none⟩ = some (.slice da dn dc) := (belA.cell (p := ⟨_, 2, none⟩) hDb).trans d2
                       have hHA : H < wA.heap.size := Nat.lt_of_lt_of_le hHb belA.size
                       have hDA : wo.heap.size + 1 < wA.heap.size := Nat.lt_of_lt_of_le hDb belA.size)
                    | (refine step_snoc _ (by rfl) (.tmp 134) (.tmp 136) _ (by rfl) 30 i0 _ 3 48 Tryd.underlying23 hi hz0 hz1 hz2 rfl (by omega) g1 cap1 q (rawsCells lrs) (by rfl) wb wb.heap.size (by first | exact ownA | exact ownA.alloc _) (by first | exact belA | exact belA.alloc belA.size _) _ 1 [.int .i64 dk, .string dt, .slice da dn dc] (by rfl) (by rfl) (by first | (refine alloc_at ?_; simp; done) | (refine (extA _ ?_ ?_).trans (alloc_at ?_) <;> (try simp) <;> (try omega); done) | (refine (extA _ ?_ ?_).trans (alloc_past (alloc_at ?_) ?_) <;> (try simp) <;> (try omega); done)) (by simp [Value.oneCell']) (by unfold maxLen; omega) (by omega) ?_
                       intro gC capC wC ownC belC
                       have aC : wC.cell? ⟨H, 2, none⟩ = some (.slice ad q c) := (belC.cell (p := ⟨H, 2, none⟩) hHb).trans a0
                       have fC : wC.frozen? ⟨H, 2, none⟩ = false := (belC.frozen (p := ⟨H, 2, none⟩) hHb).trans (Lib.frozen_of_heap B15.out 2)))
                  all_goals
                    refine hM _ _ (Met.intro (hR _ _ ?_))
                    (repeat apply Exists.intro)
                    exact ⟨app_rel HWB.out HHW.out rfl rfl ownC belC, rfl⟩
                case rest =>
                  obtain ⟨gC, capC, HOC, HXC, HBC, hCl⟩ := hcut
                  have hXH : wc.heap[H]? = some (.cells #[.int .i64 kd, .string ⟨#[]⟩, .slice (some ⟨gC, 0, none⟩) (q + 1) capC] 30 (0, 0)) := by rw [HHW.out]; exact HXC.out
                  have x0 : wc.cell? ⟨H, 0, none⟩ = some (.int .i64 kd) := Lib.cell_of_heap hXH 0
                  have x1 : wc.cell? ⟨H, 1, none⟩ = some (.string ⟨#[]⟩) := Lib.cell_of_heap hXH 1
                  have x2 : wc.cell? ⟨H, 2, none⟩ = some (.slice (some ⟨gC, 0, none⟩) (q + 1) capC) := Lib.cell_of_heap hXH 2
                  have qc : wc.cell? ⟨q2, m2, none⟩ = some (.bool (quOf fs2)) := quo_top (own_block HOQ2.out fun g hg => by cases hg; exact HBC.out.block _ (own_some_lt HOQ2.out).2) HM2.out
                  clear hXH a0 d0 d1 d2 gk
                  cases hqu : quOf fs2 with
                  | false =>
                    rw [hqu] at qc
                    have HQU := Lib.hid hqu
                    have y0 : wc.cell? ⟨g2, m2 * 3, none⟩ = some (.int .i64 kd) := (HBC.out.cell (p := ⟨g2, m2 * 3, none⟩) hb2).trans HC0.out
                    have y1 : wc.cell? ⟨g2, m2 * 3 + 1, none⟩ = some (.string ⟨#[]⟩) := (HBC.out.cell (p := ⟨g2, m2 * 3 + 1, none⟩) hb2).trans HC1.out
                    have y2 : wc.cell? ⟨g2, m2 * 3 + 2, none⟩ = some (.slice ad q c) := (HBC.out.cell (p := ⟨g2, m2 * 3 + 2, none⟩) hb2).trans HC22.out
                    have z0 : wc.frozen? ⟨g2, m2 * 3, none⟩ = false := (HBC.out.frozen (p := ⟨g2, m2 * 3, none⟩) hb2).trans (HCF.out _)
                    have z1 : wc.frozen? ⟨g2, m2 * 3 + 1, none⟩ = false := (HBC.out.frozen (p := ⟨g2, m2 * 3 + 1, none⟩) hb2).trans (HCF.out _)
                    have z2 : wc.frozen? ⟨g2, m2 * 3 + 2, none⟩ = false := (HBC.out.frozen (p := ⟨g2, m2 * 3 + 2, none⟩) hb2).trans (HCF.out _)
                    clear hqu
                    go_wp2
                    exact ⟨rd_push (D := wo.heap.size + 1) (by have := HNN.out; omega) (by have := HNN.out; omega) HQU.out HM2.out hm260 HP2.out HC2.out HQ.out HDS.out HO2.out HOQ2.out HBW2.out hne2 HRS3.out HL3.out HKD.out HQL.out H31.out HLR.out HOC.out HBC.out rfl rfl rfl, by simp [intOf]; omega⟩
                  | true =>
                    rw [hqu] at qc
                    have HQU := Lib.hid hqu
                    obtain ⟨m3, rfl⟩ : ∃ m3, m2 = m3 + 1 := ⟨m2 - 1, by
                      have h1 := HM2.out
                      cases hf : fs2 with
                      | nil => rw [hf] at hqu; cases hqu
                      | cons f r => rw [hf] at h1; simp at h1; omega⟩
                    have hcap := own_cap HO2.out
                    have hcapq := own_cap HOQ2.out
                    have b12' : wc.heap[wo.heap.size + 1]? = some (.cells #[.int .i64 dk, .string dt, .slice da dn dc] 30 (0, 0)) := (HBC.out.block _ hDl).trans HDc.out
                    have y0 : wc.cell? ⟨wo.heap.size + 1, 0, none⟩ = some (.int .i64 dk) := Lib.cell_of_heap b12' 0
                    have y1 : wc.cell? ⟨wo.heap.size + 1, 1, none⟩ = some (.string dt) := Lib.cell_of_heap b12' 1
                    have y2 : wc.cell? ⟨wo.heap.size + 1, 2, none⟩ = some (.slice da dn dc) := Lib.cell_of_heap b12' 2
                    have z0 : wc.frozen? ⟨wo.heap.size + 1, 0, none⟩ = false := Lib.frozen_of_heap b12' 0
                    have z1 : wc.frozen? ⟨wo.heap.size + 1, 1, none⟩ = false := Lib.frozen_of_heap b12' 1
                    have z2 : wc.frozen? ⟨wo.heap.size + 1, 2, none⟩ = false := Lib.frozen_of_heap b12' 2
                    clear hqu b12'
                    go_wp2
                    exact ⟨push_next (by omega) HQU.out HM2.out hm260 HP2.out HC2.out hDg hDl HDc.out HDS.out HO2.out HOQ2.out HBW2.out hne2 hqD h1D HRS3.out HL3.out HKD.out HQL.out H31.out HLR.out HOC.out HBC.out rfl rfl rfl, by simp [lenV]⟩
        by_cases k5 : tk = 5
        · have hq := HQ.out
          rw [runD_num _ _ _ _ k5] at hq
          have b1 : (tk == 1) = false := by rw [beq_eq_false_iff_ne]; exact k1
          have b3 : (tk == 3) = false := by rw [beq_eq_false_iff_ne]; exact k3
          have b2 : (tk == 2) = false := by rw [beq_eq_false_iff_ne]; exact k2
          have b5 : (tk == 5) = true := by rw [beq_iff_eq]; exact k5
          have D1 := fun w => refDigits_any tx (by omega) w
          have D2 := fun w => refPlain_any tx (by omega) w
          have K5 := Lib.hid k5
          simp only at hq
          obtain ⟨z, hz⟩ : ∃ z : List UInt8, z = plainR tx.data.toList := ⟨_, rfl⟩
          rw [← hz] at D2 hq
          have HD1 := Lib.hid D1
          have HD2 := Lib.hid D2
          have HM := Lib.hid hm
          have hdl : digs tx ≤ tx.size := by unfold digs; split <;> omega
          clear D1 D2 hz
          by_cases hd : 200 < digs tx
          · rw [if_pos hd] at hq
            have HQ := Lib.hid hq
            have hd' : (200 : Int) < (digs tx : Nat) := by omega
            clear hd k1 k3 k2 k5 hq hm e0 H5 HT HV HR
            as_aux_lemma =>
              go_wp2_with fail
              refine (HD1.out _).mono ?_
              rintro e w' ⟨rfl, rfl⟩
              go_wp2
              go_quiet (fail)
              go_wp2
              go_ret3
              rw [HQ.out]
              exact ⟨rfl, HB.out.trans ((below_draws ((HBW.out.alloc hsz1 _).alloc (by simp; omega) _) _).mono hsz)⟩
          · rw [if_neg hd] at hq
            have hd' : ¬ (200 : Int) < (digs tx : Nat) := by omega
            have e2 : (2 : Int) = tk - 3 := by omega
            rw [e2] at hq
            clear e2
            obtain ⟨P, hP⟩ : ∃ P, P = pushD fs base (.mk (tk - 3) ⟨z.toArray⟩ []) := ⟨_, rfl⟩
            rw [← hP] at hq
            have HP := Lib.hid hP
            have HQ := Lib.hid hq
            obtain ⟨wo, rfl⟩ : ∃ wo : World, wo = wr := ⟨_, rfl⟩
            clear hd k1 k3 k2 k5 hq hP hm e0 H5 HT HV HR
            as_aux_lemma =>
              go_wp2_with fail
              refine (HD1.out _).mono ?_
              rintro e w' ⟨rfl, rfl⟩
              go_wp2_with fail
              refine (HD2.out _).mono ?_
              rintro e w' ⟨rfl, rfl⟩
              go_wp2
              go_loopw [8, 9] (fun o q wq => PushRel w1 (k + 1) (wo.heap.size + 1) P o q wq) (fun o _ _ => lenV o)
              case atStart =>
                exact push_start HM.out hm60 HP.out HC.out (fun j hj => by rw [Below.heap_alloc _ _ _ (by simp; omega), Below.heap_alloc _ _ _ hj]) (by omega) (by simp) (by simpa using heap_alloc_new (wo.alloc (.cells #[.int .i64 tk, .string tx, .int .i64 tp] 47)) (.cells #[.int .i64 (tk - 3), .string ⟨z.toArray⟩, .slice none 0 0] 30)) (.mkNil _ _) HO.out HRW.out HOQ.out ((HBW.out.alloc hsz1 _).alloc (by simp; omega) _) hne hsz1
              case round =>
                obtain ⟨fs2, base2, dk, dt, dl, m2, g2, capo2, q2, capq2, rs2, dsv, hm2, hm260, rfl, rfl, hDg, hDl, HP2, HC2, HDc, HDS, HO2, HRW2, HOQ2, HBW2, hne2, hqD, h1D⟩ := hrel
                obtain ⟨rs3, ad, c, lrs, hrs3, hl3, h31, hs3, hlrs, hsrc, c0, c1, c2, cf, hb1, hb2⟩ := open_top HO2.out HRW2.out hm2
                obtain ⟨q, hq⟩ : ∃ q, q = (listOf fs2 base2).length := ⟨_, rfl⟩
                obtain ⟨kd, hkd⟩ : ∃ kd, kd = kindOf fs2 := ⟨_, rfl⟩
                rw [← hq] at c2 hs3 hrs3 hsrc
                rw [← hkd] at c0 hrs3
                have gk2 : (((m2 + 1 : Nat) : Int) - 1) = (m2 : Int) := by omega
                have g02 : (0 : Int) ≤ (m2 : Int) := Int.natCast_nonneg _
                have hszq := HBW2.out.size
                have HM2 := Lib.hid hm2
                have HKD := Lib.hid hkd
                have HRS3 := Lib.hid hrs3
                have HL3 := Lib.hid hl3
                have H31 := Lib.hid h31
                have HS3 := Lib.hid hs3
                have HLR := Lib.hid hlrs
                have HSRC := Lib.hid hsrc
                have HQL := Lib.hid hq
                have HCF := Lib.hid cf
                have HC0 := Lib.hid c0
                have HC1 := Lib.hid c1
                have HC22 := Lib.hid c2
                have hqk : q ≤ k + 1 := by rw [hq]; exact HC2.out.list
                obtain ⟨da, dc, hdv⟩ := HDS.out.val
                obtain ⟨dn, hdn⟩ : ∃ dn, dn = dl.length := ⟨_, rfl⟩
                rw [← hdn] at hdv
                subst hdv
                have HDN := Lib.hid hdn
                clear hm2 hkd hrs3 hl3 h31 hs3 hlrs hsrc hq cf hdn
                go_wp2
                obtain ⟨wb, hwb⟩ : ∃ wb, wb = wr.alloc (.cells #[.int .i64 kd, .string ⟨#[]⟩, .slice ad q c] 30) := ⟨_, rfl⟩
                rw [← hwb]
                obtain ⟨H, hH⟩ : ∃ H, H = wr.heap.size := ⟨_, rfl⟩
                rw [← hH]
                have hHb : H < wb.heap.size := by rw [hwb, hH]; simp
                have hDb : wo.heap.size + 1 < wb.heap.size := by omega
                have b15 : wb.heap[H]? = some (.cells #[.int .i64 kd, .string ⟨#[]⟩, .slice ad q c] 30 (0, 0)) := by rw [hwb, hH]; exact heap_alloc_new _ _
                have b12 : wb.heap[wo.heap.size + 1]? = some (.cells #[.int .i64 dk, .string dt, .slice da dn dc] 30 (0, 0)) := by rw [hwb, Below.heap_alloc _ _ _ hDl]; exact HDc.out
                have hsrcb : ∀ w' : World, Below wb.heap.size wb w' → (q = 0 ∧ ad = none) ∨ ∃ a, ad = some a ∧ ∀ j u, (rawsCells lrs)[j]? = some u → w'.cell? (a.add j) = some u := fun w' hb' => HSRC.out w' fun b o hb => (hb'.cell (p := ⟨b, o, none⟩) (by show b < wb.heap.size; omega)).trans (World.cell?_of_block (w := wr) (by rw [hwb]; exact Below.heap_alloc _ _ _ hb.2.1))
                have HSB := Lib.hid hsrcb
                have B15 := Lib.hid b15
                have B12 := Lib.hid b12
                have HWB := Lib.hid hwb
                have HHW := Lib.hid hH
                have a0 : wb.cell? ⟨H, 2, none⟩ = some (.slice ad q c) := Lib.cell_of_heap b15 2
                have d0 : wb.cell? ⟨wo.heap.size + 1, 0, none⟩ = some (.int .i64 dk) := Lib.cell_of_heap b12 0
                have d1 : wb.cell? ⟨wo.heap.size + 1, 1, none⟩ = some (.string dt) := Lib.cell_of_heap b12 1
                have d2 : wb.cell? ⟨wo.heap.size + 1, 2, none⟩ = some (.slice da dn dc) := Lib.cell_of_heap b12 2
                have hrl : (rawsCells lrs).length = q * 3 := by rw [rawsCells_len, HLR.out.1, HQL.out]
                have HRL := Lib.hid hrl
                have hone := raws_one HLR.out
                have HONE := Lib.hid hone
                clear hsrcb b15 b12 hwb hH hrl hone c0 c1 c2
                have hHlt : H < wb.heap.size := hHb
                go_cut [] from 131 to 138 (fun W => AppRel wr q lrs kd dk dt (.slice da dn dc) W)
                case first =>
                  rename_i hR hM
                  go_region_law (first
                    | (refine step_copy _ (by rfl) (.tmp 131) (.tmp 133) _ (by rfl) 30 i0 _ 3 48 Tryd.underlying23 hi hz0 hz1 hz2 rfl (by omega) _ (by rfl) (by first | (refine alloc_at ?_; simp; done) | (refine alloc_past (alloc_at ?_) ?_ <;> (try simp) <;> (try omega); done)) wb wb.heap.size (by simp) (by repeat (first | exact Below.refl _ _ | refine Below.drew ?_ | refine Below.alloc ?_ (by simp) _)) ad q c (rawsCells lrs) (by rfl) HRL.out HSB.out HONE.out (by unfold maxLen; omega) (by omega) ?_
                       intro g1 cap1 wA ownA belA szA extA
                       have aA : wA.cell? ⟨H, 2, none⟩ = some (.slice ad q c) := (belA.cell (p := ⟨H, 2, none⟩) hHb).trans a0
                       have dA0 : wA.cell? ⟨wo.heap.size + 1, 0, none⟩ = some (.int .i64 dk) := (belA.cell (p := ⟨_, 0, none⟩) hDb).trans d0
                       have dA1 : wA.cell? ⟨wo.heap.size + 1, 1, none⟩ = some (.string dt) := (belA.cell (p := ⟨_, 1, none⟩) hDb).trans d1
                       have dA2 : wA.cell? ⟨wo.heap.size + 1, 2, none⟩ = some (.slice da dn dc) := (belA.cell (p := ⟨_, 2, none⟩) hDb).trans d2
                       have hHA : H < wA.heap.size := Nat.lt_of_lt_of_le hHb belA.size
                       have hDA : wo.heap.size + 1 < wA.heap.size := Nat.lt_of_lt_of_le hDb belA.size)
                    | (refine step_snoc _ (by rfl) (.tmp 134) (.tmp 136) _ (by rfl) 30 i0 _ 3 48 Tryd.underlying23 hi hz0 hz1 hz2 rfl (by omega) g1 cap1 q (rawsCells lrs) (by rfl) wb wb.heap.size (by first | exact ownA | exact ownA.alloc _) (by first | exact belA | exact belA.alloc belA.size _) _ 1 [.int .i64 dk, .string dt, .slice da dn dc] (by rfl) (by rfl) (by first | (refine alloc_at ?_; simp; done) | (refine (extA _ ?_ ?_).trans (alloc_at ?_) <;> (try simp) <;> (try omega); done) | (refine (extA _ ?_ ?_).trans (alloc_past (alloc_at ?_) ?_) <;> (try simp) <;> (try omega); done)) (by simp [Value.oneCell']) (by unfold maxLen; omega) (by omega) ?_
                       intro gC capC wC ownC belC
                       have aC : wC.cell? ⟨H, 2, none⟩ = some (.slice ad q c) := (belC.cell (p := ⟨H, 2, none⟩) hHb).trans a0
                       have fC : wC.frozen? ⟨H, 2, none⟩ = false := (belC.frozen (p := ⟨H, 2, none⟩) hHb).trans (Lib.frozen_of_heap B15.out 2)))
                  all_goals
                    refine hM _ _ (Met.intro (hR _ _ ?_))
                    (repeat apply Exists.intro)
                    exact ⟨app_rel HWB.out HHW.out rfl rfl ownC belC, rfl⟩
                case rest =>
                  obtain ⟨gC, capC, HOC, HXC, HBC, hCl⟩ := hcut
                  have hXH : wc.heap[H]? = some (.cells #[.int .i64 kd, .string ⟨#[]⟩, .slice (some ⟨gC, 0, none⟩) (q + 1) capC] 30 (0, 0)) := by rw [HHW.out]; exact HXC.out
                  have x0 : wc.cell? ⟨H, 0, none⟩ = some (.int .i64 kd) := Lib.cell_of_heap hXH 0
                  have x1 : wc.cell? ⟨H, 1, none⟩ = some (.string ⟨#[]⟩) := Lib.cell_of_heap hXH 1
                  have x2 : wc.cell? ⟨H, 2, none⟩ = some (.slice (some ⟨gC, 0, none⟩) (q + 1) capC) := Lib.cell_of_heap hXH 2
                  have qc : wc.cell? ⟨q2, m2, none⟩ = some (.bool (quOf fs2)) := quo_top (own_block HOQ2.out fun g hg => by cases hg; exact HBC.out.block _ (own_some_lt HOQ2.out).2) HM2.out
                  clear hXH a0 d0 d1 d2 gk
                  cases hqu : quOf fs2 with
                  | false =>
                    rw [hqu] at qc
                    have HQU := Lib.hid hqu
                    have y0 : wc.cell? ⟨g2, m2 * 3, none⟩ = some (.int .i64 kd) := (HBC.out.cell (p := ⟨g2, m2 * 3, none⟩) hb2).trans HC0.out
                    have y1 : wc.cell? ⟨g2, m2 * 3 + 1, none⟩ = some (.string ⟨#[]⟩) := (HBC.out.cell (p := ⟨g2, m2 * 3 + 1, none⟩) hb2).trans HC1.out
                    have y2 : wc.cell? ⟨g2, m2 * 3 + 2, none⟩ = some (.slice ad q c) := (HBC.out.cell (p := ⟨g2, m2 * 3 + 2, none⟩) hb2).trans HC22.out
                    have z0 : wc.frozen? ⟨g2, m2 * 3, none⟩ = false := (HBC.out.frozen (p := ⟨g2, m2 * 3, none⟩) hb2).trans (HCF.out _)
                    have z1 : wc.frozen? ⟨g2, m2 * 3 + 1, none⟩ = false := (HBC.out.frozen (p := ⟨g2, m2 * 3 + 1, none⟩) hb2).trans (HCF.out _)
                    have z2 : wc.frozen? ⟨g2, m2 * 3 + 2, none⟩ = false := (HBC.out.frozen (p := ⟨g2, m2 * 3 + 2, none⟩) hb2).trans (HCF.out _)
                    clear hqu
                    go_wp2
                    exact ⟨rd_push (D := wo.heap.size + 1) (by have := HNN.out; omega) (by have := HNN.out; omega) HQU.out HM2.out hm260 HP2.out HC2.out HQ.out HDS.out HO2.out HOQ2.out HBW2.out hne2 HRS3.out HL3.out HKD.out HQL.out H31.out HLR.out HOC.out HBC.out rfl rfl rfl, by simp [intOf]; omega⟩
                  | true =>
                    rw [hqu] at qc
                    have HQU := Lib.hid hqu
                    obtain ⟨m3, rfl⟩ : ∃ m3, m2 = m3 + 1 := ⟨m2 - 1, by
                      have h1 := HM2.out
                      cases hf : fs2 with
                      | nil => rw [hf] at hqu; cases hqu
                      | cons f r => rw [hf] at h1; simp at h1; omega⟩
                    have hcap := own_cap HO2.out
                    have hcapq := own_cap HOQ2.out
                    have b12' : wc.heap[wo.heap.size + 1]? = some (.cells #[.int .i64 dk, .string dt, .slice da dn dc] 30 (0, 0)) := (HBC.out.block _ hDl).trans HDc.out
                    have y0 : wc.cell? ⟨wo.heap.size + 1, 0, none⟩ = some (.int .i64 dk) := Lib.cell_of_heap b12' 0
                    have y1 : wc.cell? ⟨wo.heap.size + 1, 1, none⟩ = some (.string dt) := Lib.cell_of_heap b12' 1
                    have y2 : wc.cell? ⟨wo.heap.size + 1, 2, none⟩ = some (.slice da dn dc) := Lib.cell_of_heap b12' 2
                    have z0 : wc.frozen? ⟨wo.heap.size + 1, 0, none⟩ = false := Lib.frozen_of_heap b12' 0
                    have z1 : wc.frozen? ⟨wo.heap.size + 1, 1, none⟩ = false := Lib.frozen_of_heap b12' 1
                    have z2 : wc.frozen? ⟨wo.heap.size + 1, 2, none⟩ = false := Lib.frozen_of_heap b12' 2
                    clear hqu b12'
                    go_wp2
                    exact ⟨push_next (by omega) HQU.out HM2.out hm260 HP2.out HC2.out hDg hDl HDc.out HDS.out HO2.out HOQ2.out HBW2.out hne2 hqD h1D HRS3.out HL3.out HKD.out HQL.out H31.out HLR.out HOC.out HBC.out rfl rfl rfl, by simp [lenV]⟩
        have b1 : (tk == 1) = false := by rw [beq_eq_false_iff_ne]; exact k1
        have b3 : (tk == 3) = false := by rw [beq_eq_false_iff_ne]; exact k3
        have b2 : (tk == 2) = false := by rw [beq_eq_false_iff_ne]; exact k2
        have b5 : (tk == 5) = false := by rw [beq_eq_false_iff_ne]; exact k5
        have hq := HQ.out
        rw [runD_leaf _ _ _ _ k1 k2 k3 k5] at hq
        obtain ⟨P, hP⟩ : ∃ P, P = pushD fs base (.mk (tk - 3) tx []) := ⟨_, rfl⟩
        simp only at hq
        rw [← hP] at hq
        have HP := Lib.hid hP
        have HQ := Lib.hid hq
        have HM := Lib.hid hm
        obtain ⟨wo, rfl⟩ : ∃ wo : World, wo = wr := ⟨_, rfl⟩
        clear k1 k3 k2 k5 hq hP e0 H5 HT HV HR
        as_aux_lemma =>
          go_wp2
          go_loopw [8, 9] (fun o q wq => PushRel w1 (k + 1) (wo.heap.size + 1) P o q wq) (fun o _ _ => lenV o)
          case atStart =>
            exact push_start HM.out hm60 HP.out HC.out (fun j hj => by rw [Below.heap_alloc _ _ _ (by simp; omega), Below.heap_alloc _ _ _ hj]) (by omega) (by simp) (by simpa using heap_alloc_new (wo.alloc (.cells #[.int .i64 tk, .string tx, .int .i64 tp] 47)) (.cells #[.int .i64 (tk - 3), .string tx, .slice none 0 0] 30)) (.mkNil _ _) HO.out HRW.out HOQ.out ((HBW.out.alloc hsz1 _).alloc (by simp; omega) _) hne hsz1
          case round =>
            obtain ⟨fs2, base2, dk, dt, dl, m2, g2, capo2, q2, capq2, rs2, dsv, hm2, hm260, rfl, rfl, hDg, hDl, HP2, HC2, HDc, HDS, HO2, HRW2, HOQ2, HBW2, hne2, hqD, h1D⟩ := hrel
            obtain ⟨rs3, ad, c, lrs, hrs3, hl3, h31, hs3, hlrs, hsrc, c0, c1, c2, cf, hb1, hb2⟩ := open_top HO2.out HRW2.out hm2
            obtain ⟨q, hq⟩ : ∃ q, q = (listOf fs2 base2).length := ⟨_, rfl⟩
            obtain ⟨kd, hkd⟩ : ∃ kd, kd = kindOf fs2 := ⟨_, rfl⟩
            rw [← hq] at c2 hs3 hrs3 hsrc
            rw [← hkd] at c0 hrs3
            have gk2 : (((m2 + 1 : Nat) : Int) - 1) = (m2 : Int) := by omega
            have g02 : (0 : Int) ≤ (m2 : Int) := Int.natCast_nonneg _
            have hszq := HBW2.out.size
            have HM2 := Lib.hid hm2
            have HKD := Lib.hid hkd
            have HRS3 := Lib.hid hrs3
            have HL3 := Lib.hid hl3
            have H31 := Lib.hid h31
            have HS3 := Lib.hid hs3
            have HLR := Lib.hid hlrs
            have HSRC := Lib.hid hsrc
            have HQL := Lib.hid hq
            have HCF := Lib.hid cf
            have HC0 := Lib.hid c0
            have HC1 := Lib.hid c1
            have HC22 := Lib.hid c2
            have hqk : q ≤ k + 1 := by rw [hq]; exact HC2.out.list
            obtain ⟨da, dc, hdv⟩ := HDS.out.val
            obtain ⟨dn, hdn⟩ : ∃ dn, dn = dl.length := ⟨_, rfl⟩
            rw [← hdn] at hdv
            subst hdv
            have HDN := Lib.hid hdn
            clear hm2 hkd hrs3 hl3 h31 hs3 hlrs hsrc hq cf hdn
            go_wp2
            obtain ⟨wb, hwb⟩ : ∃ wb, wb = wr.alloc (.cells #[.int .i64 kd, .string ⟨#[]⟩, .slice ad q c] 30) := ⟨_, rfl⟩
            rw [← hwb]
            obtain ⟨H, hH⟩ : ∃ H, H = wr.heap.size := ⟨_, rfl⟩
            rw [← hH]
            have hHb : H < wb.heap.size := by rw [hwb, hH]; simp
            have hDb : wo.heap.size + 1 < wb.heap.size := by omega
            have b15 : wb.heap[H]? = some (.cells #[.int .i64 kd, .string ⟨#[]⟩, .slice ad q c] 30 (0, 0)) := by rw [hwb, hH]; exact heap_alloc_new _ _
            have b12 : wb.heap[wo.heap.size + 1]? = some (.cells #[.int .i64 dk, .string dt, .slice da dn dc] 30 (0, 0)) := by rw [hwb, Below.heap_alloc _ _ _ hDl]; exact HDc.out
            have hsrcb : ∀ w' : World, Below wb.heap.size wb w' → (q = 0 ∧ ad = none) ∨ ∃ a, ad = some a ∧ ∀ j u, (rawsCells lrs)[j]? = some u → w'.cell? (a.add j) = some u := fun w' hb' => HSRC.out w' fun b o hb => (hb'.cell (p := ⟨b, o, none⟩) (by show b < wb.heap.size; omega)).trans (World.cell?_of_block (w := wr) (by rw [hwb]; exact Below.heap_alloc _ _ _ hb.2.1))
            have HSB := Lib.hid hsrcb
            have B15 := Lib.hid b15
            have B12 := Lib.hid b12
            have HWB := Lib.hid hwb
            have HHW := Lib.hid hH
            have a0 : wb.cell? ⟨H, 2, none⟩ = some (.slice ad q c) := Lib.cell_of_heap b15 2
            have d0 : wb.cell? ⟨wo.heap.size + 1, 0, none⟩ = some (.int .i64 dk) := Lib.cell_of_heap b12 0
            have d1 : wb.cell? ⟨wo.heap.size + 1, 1, none⟩ = some (.string dt) := Lib.cell_of_heap b12 1
            have d2 : wb.cell? ⟨wo.heap.size + 1, 2, none⟩ = some (.slice da dn dc) := Lib.cell_of_heap b12 2
            have hrl : (rawsCells lrs).length = q * 3 := by rw [rawsCells_len, HLR.out.1, HQL.out]
            have HRL := Lib.hid hrl
            have hone := raws_one HLR.out
            have HONE := Lib.hid hone
            clear hsrcb b15 b12 hwb hH hrl hone c0 c1 c2
            have hHlt : H < wb.heap.size := hHb
            go_cut [] from 131 to 138 (fun W => AppRel wr q lrs kd dk dt (.slice da dn dc) W)
            case first =>
              rename_i hR hM
              go_region_law (first
                | (refine step_copy _ (by rfl) (.tmp 131) (.tmp 133) _ (by rfl) 30 i0 _ 3 48 Tryd.underlying23 hi hz0 hz1 hz2 rfl (by omega) _ (by rfl) (by first | (refine alloc_at ?_; simp; done) | (refine alloc_past (alloc_at ?_) ?_ <;> (try simp) <;> (try omega); done)) wb wb.heap.size (by simp) (by repeat (first | exact Below.refl _ _ | refine Below.drew ?_ | refine Below.alloc ?_ (by simp) _)) ad q c (rawsCells lrs) (by rfl) HRL.out HSB.out HONE.out (by unfold maxLen; omega) (by omega) ?_
                   intro g1 cap1 wA ownA belA szA extA
                   have aA : wA.cell? ⟨H, 2, none⟩ = some (.slice ad q c) := (belA.cell (p := ⟨H, 2, none⟩) hHb).trans a0
                   have dA0 : wA.cell? ⟨wo.heap.size + 1, 0, none⟩ = some (.int .i64 dk) := (belA.cell (p := ⟨_, 0, none⟩) hDb).trans d0
                   have dA1 : wA.cell? ⟨wo.heap.size + 1, 1, none⟩ = some (.string dt) := (belA.cell (p := ⟨_, 1, none⟩) hDb).trans d1
                   have dA2 : wA.cell? ⟨wo.heap.size + 1, 2, none⟩ = some (.slice da dn dc) := (belA.cell (p := ⟨_, 2, none⟩) hDb).trans d2
                   have hHA : H < wA.heap.size := Nat.lt_of_lt_of_le hHb belA.size
                   have hDA : wo.heap.size + 1 < wA.heap.size := Nat.lt_of_lt_of_le hDb belA.size)
                | (refine step_snoc _ (by rfl) (.tmp 134) (.tmp 136) _ (by rfl) 30 i0 _ 3 48 Tryd.underlying23 hi hz0 hz1 hz2 rfl (by omega) g1 cap1 q (rawsCells lrs) (by rfl) wb wb.heap.size (by first | exact ownA | exact ownA.alloc _) (by first | exact belA | exact belA.alloc belA.size _) _ 1 [.int .i64 dk, .string dt, .slice da dn dc] (by rfl) (by rfl) (by first | (refine alloc_at ?_; simp; done) | (refine (extA _ ?_ ?_).trans (alloc_at ?_) <;> (try simp) <;> (try omega); done) | (refine (extA _ ?_ ?_).trans (alloc_past (alloc_at ?_) ?_) <;> (try simp) <;> (try omega); done)) (by simp [Value.oneCell']) (by unfold maxLen; omega) (by omega) ?_
                   intro gC capC wC ownC belC
                   have aC : wC.cell? ⟨H, 2, none⟩ = some (.slice ad q c) := (belC.cell (p := ⟨H, 2, none⟩) hHb).trans a0
                   have fC : wC.frozen? ⟨H, 2, none⟩ = false := (belC.frozen (p := ⟨H, 2, none⟩) hHb).trans (Lib.frozen_of_heap B15.out 2)))
              all_goals
                refine hM _ _ (Met.intro (hR _ _ ?_))
                (repeat apply Exists.intro)
                exact ⟨app_rel HWB.out HHW.out rfl rfl ownC belC, rfl⟩
            case rest =>
              obtain ⟨gC, capC, HOC, HXC, HBC, hCl⟩ := hcut
              have hXH : wc.heap[H]? = some (.cells #[.int .i64 kd, .string ⟨#[]⟩, .slice (some ⟨gC, 0, none⟩) (q + 1) capC] 30 (0, 0)) := by rw [HHW.out]; exact HXC.out
              have x0 : wc.cell? ⟨H, 0, none⟩ = some (.int .i64 kd) := Lib.cell_of_heap hXH 0
              have x1 : wc.cell? ⟨H, 1, none⟩ = some (.string ⟨#[]⟩) := Lib.cell_of_heap hXH 1
              have x2 : wc.cell? ⟨H, 2, none⟩ = some (.slice (some ⟨gC, 0, none⟩) (q + 1) capC) := Lib.cell_of_heap hXH 2
              have qc : wc.cell? ⟨q2, m2, none⟩ = some (.bool (quOf fs2)) := quo_top (own_block HOQ2.out fun g hg => by cases hg; exact HBC.out.block _ (own_some_lt HOQ2.out).2) HM2.out
              clear hXH a0 d0 d1 d2 gk
              cases hqu : quOf fs2 with
              | false =>
                rw [hqu] at qc
                have HQU := Lib.hid hqu
                have y0 : wc.cell? ⟨g2, m2 * 3, none⟩ = some (.int .i64 kd) := (HBC.out.cell (p := ⟨g2, m2 * 3, none⟩) hb2).trans HC0.out
                have y1 : wc.cell? ⟨g2, m2 * 3 + 1, none⟩ = some (.string ⟨#[]⟩) := (HBC.out.cell (p := ⟨g2, m2 * 3 + 1, none⟩) hb2).trans HC1.out
                have y2 : wc.cell? ⟨g2, m2 * 3 + 2, none⟩ = some (.slice ad q c) := (HBC.out.cell (p := ⟨g2, m2 * 3 + 2, none⟩) hb2).trans HC22.out
                have z0 : wc.frozen? ⟨g2, m2 * 3, none⟩ = false := (HBC.out.frozen (p := ⟨g2, m2 * 3, none⟩) hb2).trans (HCF.out _)
                have z1 : wc.frozen? ⟨g2, m2 * 3 + 1, none⟩ = false := (HBC.out.frozen (p := ⟨g2, m2 * 3 + 1, none⟩) hb2).trans (HCF.out _)
                have z2 : wc.frozen? ⟨g2, m2 * 3 + 2, none⟩ = false := (HBC.out.frozen (p := ⟨g2, m2 * 3 + 2, none⟩) hb2).trans (HCF.out _)
                clear hqu
                go_wp2
                exact ⟨rd_push (D := wo.heap.size + 1) (by have := HNN.out; omega) (by have := HNN.out; omega) HQU.out HM2.out hm260 HP2.out HC2.out HQ.out HDS.out HO2.out HOQ2.out HBW2.out hne2 HRS3.out HL3.out HKD.out HQL.out H31.out HLR.out HOC.out HBC.out rfl rfl rfl, by simp [intOf]; omega⟩
              | true =>
                rw [hqu] at qc
                have HQU := Lib.hid hqu
                obtain ⟨m3, rfl⟩ : ∃ m3, m2 = m3 + 1 := ⟨m2 - 1, by
                  have h1 := HM2.out
                  cases hf : fs2 with
                  | nil => rw [hf] at hqu; cases hqu
                  | cons f r => rw [hf] at h1; simp at h1; omega⟩
                have hcap := own_cap HO2.out
                have hcapq := own_cap HOQ2.out
                have b12' : wc.heap[wo.heap.size + 1]? = some (.cells #[.int .i64 dk, .string dt, .slice da dn dc] 30 (0, 0)) := (HBC.out.block _ hDl).trans HDc.out
                have y0 : wc.cell? ⟨wo.heap.size + 1, 0, none⟩ = some (.int .i64 dk) := Lib.cell_of_heap b12' 0
                have y1 : wc.cell? ⟨wo.heap.size + 1, 1, none⟩ = some (.string dt) := Lib.cell_of_heap b12' 1
                have y2 : wc.cell? ⟨wo.heap.size + 1, 2, none⟩ = some (.slice da dn dc) := Lib.cell_of_heap b12' 2
                have z0 : wc.frozen? ⟨wo.heap.size + 1, 0, none⟩ = false := Lib.frozen_of_heap b12' 0
                have z1 : wc.frozen? ⟨wo.heap.size + 1, 1, none⟩ = false := Lib.frozen_of_heap b12' 1
                have z2 : wc.frozen? ⟨wo.heap.size + 1, 2, none⟩ = false := Lib.frozen_of_heap b12' 2
                clear hqu b12'
                go_wp2
                exact ⟨push_next (by omega) HQU.out HM2.out hm260 HP2.out HC2.out hDg hDl HDc.out HDS.out HO2.out HOQ2.out HBW2.out hne2 hqD h1D HRS3.out HL3.out HKD.out HQL.out H31.out HLR.out HOC.out HBC.out rfl rfl rfl, by simp [lenV]⟩
      · have hkn : k = n := by omega
        have hdr : ts.drop k = [] := by rw [List.drop_eq_nil_iff, ← HNN.out]; omega
        have hq := HQ.out
        rw [hdr] at hq
        clear hdr
        have HQ := Lib.hid hq
        clear hq
        by_cases h0 : m = 0
        · obtain ⟨rs', ad, c, lrs, hrs, hl', h1, hs', hx1, hx2, c0, c1, c2, cf, hb1, hb2⟩ := open_top HO.out HRW.out hm
          have hfs : fs = [] := List.length_eq_zero_iff.1 (hm.symm.trans h0)
          obtain ⟨q, hq⟩ : ∃ q, q = (listOf fs base).length := ⟨_, rfl⟩
          rw [← hq] at c2 hs'
          have c2' : wr.cell? ⟨go, 2, none⟩ = some (.slice ad q c) := by rw [h0] at c2; simpa using c2
          have HFS := Lib.hid hfs
          have HQ2 := Lib.hid hq
          have HS := Lib.hid hs'
          clear hkn hrs hl' h1 hx1 hx2 c0 c1 c2 cf hq hs' hfs hm
          go_wp2
          go_ret3
          have hfs := HFS.out
          subst hfs
          rw [HQ.out, runD_done]
          exact ⟨⟨_, rfl, HS.out.mono (fun b hb => ⟨by omega, hb.2.1⟩) (fun _ _ _ => rfl)⟩, HB.out.trans (HBW.out.mono hsz)⟩
        · obtain ⟨f, fs', rfl⟩ : ∃ f fs', fs = f :: fs' := by
            cases fs with
            | nil => simp at hm; omega
            | cons f fs' => exact ⟨f, fs', rfl⟩
          have HM := Lib.hid hm
          clear hm hkn
          go_wp2
          go_ret3
          rw [HQ.out, runD_nil]
          exact ⟨rfl, HB.out.trans (HBW.out.mono hsz)⟩
end Go.Proofs.YtghgjefobfaodaaDoor

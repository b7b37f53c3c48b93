import Derived.Test.YtghgjefobfaodaaDoorDatP
namespace Go.Proofs.YtghgjefobfaodaaDoor
open Go.RowKit

/-- what the parser comes to: a datum and the tokens behind it, or the first that does not fit -/
inductive POut where
  | ok (d : Dat) (rest : List Tok)
  | bad (at_ : Int) (code : Int)
mutual
def datumF (N : Int) : Nat → Tok → List Tok → Nat → POut
  | 0, _, _, _ => .bad 0 0
  | f + 1, t, r, ar =>
    if t.kind = 1 then (if ar = 60 then .bad t.pos 13 else match r with | [] => .bad N 3 | t' :: r' => listF N f t' r' (ar + 1) [])
    else if t.kind = 3 then (if ar = 60 then .bad t.pos 13 else match r with
      | [] => .bad N 3
      | t' :: r' => match datumF N f t' r' (ar + 1) with
        | .ok d r'' => .ok (listD [quoteD, d]) r''
        | .bad a c => .bad a c)
    else if t.kind = 2 then .bad t.pos 2
    else if t.kind = 5 then (if 200 < digs t.text then .bad t.pos 13 else .ok (.mk 2 ⟨(plainC t.text.data.toList).toArray⟩ []) r)
    else .ok (.mk (t.kind - 3) t.text []) r
def listF (N : Int) : Nat → Tok → List Tok → Nat → List Dat → POut
  | 0, _, _, _, _ => .bad 0 0
  | f + 1, t, r, ar, acc =>
    if t.kind = 2 then .ok (listD acc) r
    else match datumF N f t r ar with
      | .bad a c => .bad a c
      | .ok _ [] => .bad N 3
      | .ok d (t' :: r') => listF N f t' r' ar (acc ++ [d])
end
/-- all data of a text -/
def allF (N : Int) : Nat → List Tok → List Dat → RRes
  | 0, _, _ => .err 0 0
  | _ + 1, [], acc => .ok acc
  | f + 1, t :: r, acc => match datumF N (2 * r.length + 1) t r 0 with
    | .ok d r' => allF N f r' (acc ++ [d])
    | .bad a c => .err a c

/-- a token as Lex makes it -/
def okTok (t : Tok) : Prop := 1 ≤ t.kind ∧ t.kind ≤ 7 ∧ (t.kind = 5 → isNum t.text.data.toList = true)

mutual
theorem datumF_rest (N : Int) : ∀ (f : Nat) (t : Tok) (r : List Tok) (ar : Nat) (d : Dat) (r' : List Tok), datumF N f t r ar = .ok d r' → ∃ k, r' = r.drop k
  | 0, _, _, _, _, _, h => by simp [datumF] at h
  | f + 1, t, r, ar, d, r', h => by
    unfold datumF at h
    split at h
    · split at h
      · cases h
      · match r, h with
        | t' :: q, h =>
          obtain ⟨k, hk⟩ := listF_rest N f t' q (ar + 1) [] d r' h
          exact ⟨k + 1, hk⟩
    · split at h
      · split at h
        · cases h
        · match r, h with
          | t' :: q, h =>
            simp only at h
            cases hx : datumF N f t' q (ar + 1) with
            | bad a c => rw [hx] at h; cases h
            | ok x q' =>
              rw [hx] at h
              simp only [POut.ok.injEq] at h
              obtain ⟨k, hk⟩ := datumF_rest N f t' q (ar + 1) x q' hx
              exact ⟨k + 1, by rw [← h.2, hk]; rfl⟩
      · split at h
        · cases h
        · split at h
          · split at h
            · cases h
            · simp only [POut.ok.injEq] at h; exact ⟨0, h.2.symm⟩
          · simp only [POut.ok.injEq] at h; exact ⟨0, h.2.symm⟩
theorem listF_rest (N : Int) : ∀ (f : Nat) (t : Tok) (r : List Tok) (ar : Nat) (acc : List Dat) (d : Dat) (r' : List Tok), listF N f t r ar acc = .ok d r' → ∃ k, r' = r.drop k
  | 0, _, _, _, _, _, _, h => by simp [listF] at h
  | f + 1, t, r, ar, acc, d, r', h => by
    unfold listF at h
    split at h
    · simp only [POut.ok.injEq] at h; exact ⟨0, h.2.symm⟩
    · cases hx : datumF N f t r ar with
      | bad a c => rw [hx] at h; cases h
      | ok x q =>
        rw [hx] at h
        obtain ⟨k, hk⟩ := datumF_rest N f t r ar x q hx
        match q, h, hk with
        | t' :: q', h, hk =>
          obtain ⟨j, hj⟩ := listF_rest N f t' q' ar (acc ++ [x]) d r' h
          refine ⟨k + 1 + j, ?_⟩
          rw [hj, ← List.drop_drop, ← List.drop_drop, ← hk]
          rfl
end
theorem pushD_len : ∀ (fs : List Fr) (base : List Dat) (d : Dat), (pushD fs base d).1.length ≤ fs.length
  | [], base, d => Nat.le_refl _
  | (false, es) :: fs, base, d => Nat.le_refl _
  | (true, es) :: fs, base, d => by
    have := pushD_len fs base (listD (es ++ [d]))
    unfold pushD
    simp only [List.length_cons]; omega

theorem runD_nil (N : Int) (x : Fr) (fs : List Fr) (base : List Dat) : runD N (x :: fs) base [] = .err N 3 := by
  rw [runD, if_neg (by simp)]
theorem runD_done (N : Int) (base : List Dat) : runD N [] base [] = .ok base := by
  rw [runD, if_pos rfl]
theorem runD_cons (N : Int) (fs : List Fr) (base : List Dat) (t : Tok) (r : List Tok) : runD N fs base (t :: r) =
    if t.kind = 1 then (if 60 ≤ fs.length then .err t.pos 13 else runD N ((false, []) :: fs) base r)
    else if t.kind = 3 then (if 60 ≤ fs.length then .err t.pos 13 else runD N ((true, [quoteD]) :: fs) base r)
    else if t.kind = 2 then
      match fs with
      | (false, es) :: fs' => runD N (pushD fs' base (listD es)).1 (pushD fs' base (listD es)).2 r
      | _ => .err t.pos 2
    else if t.kind = 5 then
      (if 200 < digs t.text then .err t.pos 13 else runD N (pushD fs base (.mk 2 ⟨(plainR t.text.data.toList).toArray⟩ [])).1 (pushD fs base (.mk 2 ⟨(plainR t.text.data.toList).toArray⟩ [])).2 r)
    else runD N (pushD fs base (.mk (t.kind - 3) t.text [])).1 (pushD fs base (.mk (t.kind - 3) t.text [])).2 r := rfl
theorem runD_open (N : Int) (fs : List Fr) (base : List Dat) {t : Tok} (r : List Tok) (h : t.kind = 1) : runD N fs base (t :: r) = if 60 ≤ fs.length then .err t.pos 13 else runD N ((false, []) :: fs) base r := by
  rw [runD_cons, if_pos h]
theorem runD_quote (N : Int) (fs : List Fr) (base : List Dat) {t : Tok} (r : List Tok) (h : t.kind = 3) : runD N fs base (t :: r) = if 60 ≤ fs.length then .err t.pos 13 else runD N ((true, [quoteD]) :: fs) base r := by
  rw [runD_cons, if_neg (by omega), if_pos h]
theorem runD_close (N : Int) (fs : List Fr) (base : List Dat) {t : Tok} (r : List Tok) (h : t.kind = 2) (es : List Dat) : runD N ((false, es) :: fs) base (t :: r) = runD N (pushD fs base (listD es)).1 (pushD fs base (listD es)).2 r := by
  rw [runD_cons, if_neg (by omega), if_neg (by omega), if_pos h]
theorem runD_close_bad (N : Int) (fs : List Fr) (base : List Dat) {t : Tok} (r : List Tok) (h : t.kind = 2) (hf : fs = [] ∨ ∃ es fs', fs = (true, es) :: fs') : runD N fs base (t :: r) = .err t.pos 2 := by
  rw [runD_cons, if_neg (by omega), if_neg (by omega), if_pos h]
  rcases hf with rfl | ⟨es, fs', rfl⟩ <;> rfl
theorem runD_num (N : Int) (fs : List Fr) (base : List Dat) {t : Tok} (r : List Tok) (h : t.kind = 5) : runD N fs base (t :: r) = if 200 < digs t.text then .err t.pos 13 else runD N (pushD fs base (.mk 2 ⟨(plainR t.text.data.toList).toArray⟩ [])).1 (pushD fs base (.mk 2 ⟨(plainR t.text.data.toList).toArray⟩ [])).2 r := by
  rw [runD_cons, if_neg (by omega), if_neg (by omega), if_neg (by omega), if_pos h]
theorem runD_leaf (N : Int) (fs : List Fr) (base : List Dat) {t : Tok} (r : List Tok) (h1 : t.kind ≠ 1) (h2 : t.kind ≠ 2) (h3 : t.kind ≠ 3) (h5 : t.kind ≠ 5) : runD N fs base (t :: r) = runD N (pushD fs base (.mk (t.kind - 3) t.text [])).1 (pushD fs base (.mk (t.kind - 3) t.text [])).2 r := by
  rw [runD_cons, if_neg h1, if_neg h3, if_neg h2, if_neg h5]

mutual
/-- the parser goes as the document's open lists do -/
theorem datumF_run (N : Int) : ∀ (f : Nat) (t : Tok) (r : List Tok) (fs : List Fr) (base : List Dat), 2 * r.length + 1 ≤ f → okTok t → (∀ u ∈ r, okTok u) → (t.kind = 2 → fs = [] ∨ ∃ es fs', fs = (true, es) :: fs') → fs.length ≤ 60 →
    runD N fs base (t :: r) = match datumF N f t r fs.length with
      | .ok d r' => runD N (pushD fs base d).1 (pushD fs base d).2 r'
      | .bad a c => .err a c
  | 0, _, _, _, _, h, _, _, _, _ => by omega
  | f + 1, t, r, fs, base, hf, hot, hor, h2, hl => by
    by_cases k1 : t.kind = 1
    · rw [runD_open N fs base r k1]
      unfold datumF
      rw [if_pos k1]
      by_cases h60 : fs.length = 60
      · rw [if_pos (by omega), if_pos h60]
      · rw [if_neg (by omega), if_neg h60]
        match r, hf, hor with
        | [], _, _ => rw [runD_nil]
        | t' :: q, hf, hor =>
          simp only [List.length_cons] at hf
          exact listF_run N f t' q [] fs base (by omega) (hor t' (by simp)) (fun u hu => hor u (by simp [hu])) (by omega)
    by_cases k3 : t.kind = 3
    · rw [runD_quote N fs base r k3]
      unfold datumF
      rw [if_neg k1, if_pos k3]
      by_cases h60 : fs.length = 60
      · rw [if_pos (by omega), if_pos h60]
      · rw [if_neg (by omega), if_neg h60]
        match r, hf, hor with
        | [], _, _ => rw [runD_nil]
        | t' :: q, hf, hor =>
          simp only [List.length_cons] at hf
          rw [datumF_run N f t' q ((true, [quoteD]) :: fs) base (by omega) (hor t' (by simp)) (fun u hu => hor u (by simp [hu])) (fun _ => .inr ⟨_, _, rfl⟩) (by simp; omega)]
          simp only [List.length_cons]
          cases datumF N f t' q (fs.length + 1) with
          | bad a c => rfl
          | ok d r'' => rfl
    by_cases k2 : t.kind = 2
    · rw [runD_close_bad N fs base r k2 (h2 k2)]
      unfold datumF
      rw [if_neg k1, if_neg k3, if_pos k2]
    by_cases k5 : t.kind = 5
    · rw [runD_num N fs base r k5]
      unfold datumF
      rw [if_neg k1, if_neg k3, if_neg k2, if_pos k5, plain_same (hot.2.2 k5)]
      by_cases hd : 200 < digs t.text
      · rw [if_pos hd, if_pos hd]
      · rw [if_neg hd, if_neg hd]
    · rw [runD_leaf N fs base r k1 k2 k3 k5]
      unfold datumF
      rw [if_neg k1, if_neg k3, if_neg k2, if_neg k5]
theorem listF_run (N : Int) : ∀ (f : Nat) (t : Tok) (r : List Tok) (acc : List Dat) (fs : List Fr) (base : List Dat), 2 * r.length + 2 ≤ f → okTok t → (∀ u ∈ r, okTok u) → fs.length < 60 →
    runD N ((false, acc) :: fs) base (t :: r) = match listF N f t r (fs.length + 1) acc with
      | .ok d r' => runD N (pushD fs base d).1 (pushD fs base d).2 r'
      | .bad a c => .err a c
  | 0, _, _, _, _, _, h, _, _, _ => by omega
  | f + 1, t, r, acc, fs, base, hf, hot, hor, hl => by
    by_cases k2 : t.kind = 2
    · rw [runD_close N fs base r k2]
      unfold listF
      rw [if_pos k2]
    · rw [datumF_run N f t r ((false, acc) :: fs) base (by omega) hot hor (fun h => absurd h k2) (by simp; omega)]
      unfold listF
      rw [if_neg k2]
      simp only [List.length_cons]
      cases hx : datumF N f t r (fs.length + 1) with
      | bad a c => rfl
      | ok x q =>
        obtain ⟨k, hk⟩ := datumF_rest N f t r _ x q hx
        match q, hk with
        | [], _ => exact runD_nil _ _ _ _
        | t' :: q', hk =>
          have hq : ∀ u ∈ t' :: q', u ∈ r := fun u hu => List.mem_of_mem_drop (hk ▸ hu)
          have hlen : (t' :: q').length ≤ r.length := by rw [hk, List.length_drop]; omega
          simp only [List.length_cons] at hlen
          exact listF_run N f t' q' (acc ++ [x]) fs base (by omega) (hor _ (hq _ (by simp))) (fun u hu => hor u (hq _ (by simp [hu]))) hl
end
theorem allF_run (N : Int) : ∀ (f : Nat) (l : List Tok) (acc : List Dat), l.length < f → (∀ u ∈ l, okTok u) → runD N [] acc l = allF N f l acc
  | 0, _, _, h, _ => by omega
  | f + 1, [], acc, _, _ => by rw [runD_done]; rfl
  | f + 1, t :: r, acc, h, hok => by
    rw [datumF_run N (2 * r.length + 1) t r [] acc (Nat.le_refl _) (hok t (by simp)) (fun u hu => hok u (by simp [hu])) (fun _ => .inl rfl) (by simp)]
    have e : allF N (f + 1) (t :: r) acc = match datumF N (2 * r.length + 1) t r 0 with
      | .ok d r' => allF N f r' (acc ++ [d])
      | .bad a c => .err a c := rfl
    rw [e]
    simp only [List.length_nil]
    cases hx : datumF N (2 * r.length + 1) t r 0 with
    | bad a c => rfl
    | ok d r' =>
      obtain ⟨k, hk⟩ := datumF_rest N _ t r _ d r' hx
      have hlen : r'.length ≤ r.length := by rw [hk, List.length_drop]; omega
      simp only [List.length_cons] at h
      exact allF_run N f r' (acc ++ [d]) (by omega) (fun u hu => hok u (by simp [List.mem_of_mem_drop (hk ▸ hu)]))
end Go.Proofs.YtghgjefobfaodaaDoor

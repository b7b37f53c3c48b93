import Derived.Test.YtghgjefobfaodaaDoorLexM
namespace Go.Proofs.YtghgjefobfaodaaDoor
open Go.RowKit

/-- a datum -/
inductive Dat where
  | mk (kind : Int) (text : ByteArray) (list : List Dat)
def Dat.kind : Dat → Int | .mk k _ _ => k
def Dat.text : Dat → ByteArray | .mk _ t _ => t
def Dat.list : Dat → List Dat | .mk _ _ l => l
def dat0 : Dat := .mk 0 ⟨#[]⟩ []

mutual
/-- how deep lists lie in it -/
def hgt : Dat → Nat
  | .mk _ _ l => hgts l
def hgts : List Dat → Nat
  | [] => 0
  | d :: r => max (hgt d + 1) (hgts r)
end
theorem hgt_mk (d : Dat) : hgt d = hgts d.list := by cases d; simp [hgt, Dat.list]
theorem hgts_get : ∀ (l : List Dat) (j : Nat), j < l.length → hgt (l.getD j dat0) + 1 ≤ hgts l
  | [], j, h => by simp at h
  | d :: r, 0, _ => by simp only [hgts, List.getD_cons_zero]; omega
  | d :: r, j + 1, h => by
    have := hgts_get r j (by simpa using h)
    simp only [hgts, List.getD_cons_succ]; omega
theorem hgts_mem {l : List Dat} {d : Dat} (h : d ∈ l) : hgt d + 1 ≤ hgts l := by
  obtain ⟨j, hj, rfl⟩ := List.getElem_of_mem h
  have := hgts_get l j hj
  simpa [List.getD_eq_getElem?_getD, hj] using this
/-- by induction on the depth -/
theorem dat_ind {P : Dat → Prop} (h : ∀ d, (∀ x ∈ d.list, P x) → P d) (d : Dat) : P d := by
  have key : ∀ n d, hgt d ≤ n → P d := by
    intro n
    induction n with
    | zero => intro d hd; refine h d fun x hx => ?_; rw [hgt_mk] at hd; have := hgts_mem hx; omega
    | succ n ih => intro d hd; refine h d fun x hx => ih x ?_; rw [hgt_mk] at hd; have := hgts_mem hx; omega
  exact key _ d (Nat.le_refl _)

mutual
/-- are two data the same? -/
def sameD : Dat → Dat → Bool
  | .mk k t l, .mk k' t' l' => k == k' && t.toList == t'.toList && samesD l l'
def samesD : List Dat → List Dat → Bool
  | [], [] => true
  | a :: r, b :: s => sameD a b && samesD r s
  | _, _ => false
end
theorem sameD_eq (a b : Dat) : sameD a b = (a.kind == b.kind && a.text.toList == b.text.toList && samesD a.list b.list) := by cases a; cases b; simp [sameD, Dat.kind, Dat.text, Dat.list]
theorem samesD_len : ∀ (l m : List Dat), samesD l m = true → l.length = m.length
  | [], [], _ => rfl
  | a :: r, b :: s, h => by simp only [samesD, Bool.and_eq_true] at h; simp [samesD_len r s h.2]
  | [], b :: s, h => by simp [samesD] at h
  | a :: r, [], h => by simp [samesD] at h
theorem samesD_iff : ∀ (l m : List Dat), samesD l m = true ↔ l.length = m.length ∧ ∀ j, j < l.length → sameD (l.getD j dat0) (m.getD j dat0) = true
  | [], [] => by simp [samesD]
  | a :: r, b :: s => by
    simp only [samesD, Bool.and_eq_true, samesD_iff r s, List.length_cons]
    constructor
    · rintro ⟨h1, h2, h3⟩
      refine ⟨by omega, fun j hj => ?_⟩
      cases j with
      | zero => simpa using h1
      | succ j => simpa using h3 j (by omega)
    · rintro ⟨h1, h2⟩
      exact ⟨by simpa using h2 0 (by omega), by omega, fun j hj => by simpa using h2 (j + 1) (by omega)⟩
  | [], b :: s => by simp [samesD]
  | a :: r, [] => by simp [samesD]
theorem toList_inj {s t : ByteArray} (h : s.toList = t.toList) : s = t := by
  have h2 : s.data.toList = t.data.toList := by rwa [Lib.toList_data, Lib.toList_data] at h
  exact ba_ext h2
theorem sameD_refl (a : Dat) : sameD a a = true := by
  induction a using dat_ind with
  | h d ih =>
    rw [sameD_eq]
    simp only [beq_self_eq_true, Bool.true_and]
    rw [samesD_iff]
    exact ⟨rfl, fun j hj => ih _ (by simp [List.getD_eq_getElem?_getD, hj])⟩
theorem dat_ext : ∀ {a b : Dat}, a.kind = b.kind → a.text = b.text → a.list = b.list → a = b
  | .mk _ _ _, .mk _ _ _, rfl, rfl, rfl => rfl
theorem sameD_imp (a : Dat) : ∀ b, sameD a b = true → a = b := by
  induction a using dat_ind with
  | h d ih =>
    intro b hb
    rw [sameD_eq] at hb
    simp only [Bool.and_eq_true, beq_iff_eq] at hb
    obtain ⟨⟨h1, h2⟩, h3⟩ := hb
    rw [samesD_iff] at h3
    refine dat_ext h1 (toList_inj h2) (List.ext_getElem h3.1 fun j h h' => ?_)
    have := ih (d.list.getD j dat0) (by simp [List.getD_eq_getElem?_getD, h]) _ (h3.2 j h)
    simpa [List.getD_eq_getElem?_getD, h, h'] using this
theorem sameD_iff (a b : Dat) : sameD a b = true ↔ a = b := ⟨sameD_imp a b, fun h => h ▸ sameD_refl a⟩
theorem samesD_refl (l : List Dat) : samesD l l = true := by rw [samesD_iff]; exact ⟨rfl, fun _ _ => sameD_refl _⟩
theorem samesD_eq_iff (l m : List Dat) : samesD l m = true ↔ l = m := by
  constructor
  · intro h
    have : sameD (.mk 0 ⟨#[]⟩ l) (.mk 0 ⟨#[]⟩ m) = true := by rw [sameD_eq]; simpa [Dat.kind, Dat.text, Dat.list] using h
    have := sameD_imp _ _ this
    injection this
  · rintro rfl; exact samesD_refl _

/-- how many digits the text of a number has -/
def digs (s : ByteArray) : Nat := if s.data.toList.head? = some 45 then s.size - 1 else s.size
/-- noughts ahead are struck, but for the last byte -/
def stripR : List UInt8 → List UInt8
  | [] => []
  | [c] => [c]
  | c :: d :: r => if c = 48 then stripR (d :: r) else c :: d :: r
/-- the number's text, as the document makes it -/
def plainR (l : List UInt8) : List UInt8 :=
  if l.head? = some 45 then (if stripR l.tail = [48] then stripR l.tail else 45 :: stripR l.tail) else stripR l
/-- the number's text, as the code makes it -/
def plainC (l : List UInt8) : List UInt8 :=
  let v := if l.head? = some 45 then l.tail else l
  if v.dropWhile (· == 48) = [] then [48] else if l.head? = some 45 then 45 :: v.dropWhile (· == 48) else v.dropWhile (· == 48)
theorem strip_digits : ∀ v : List UInt8, v ≠ [] → v.all digB = true → stripR v = if v.dropWhile (· == 48) = [] then [48] else v.dropWhile (· == 48)
  | [], h, _ => absurd rfl h
  | [c], _, _ => by
    by_cases hc : c = 48
    · subst hc; rfl
    · simp [stripR, hc]
  | c :: d :: r, _, h => by
    by_cases hc : c = 48
    · subst hc
      have := strip_digits (d :: r) (by simp) (by simp only [List.all_cons, Bool.and_eq_true] at h ⊢; exact h.2)
      simp only [stripR, if_true]
      rw [this]; simp
    · simp [stripR, hc]
theorem drop48_ne (v : List UInt8) : v.dropWhile (· == 48) ≠ [48] := by
  induction v with
  | nil => simp
  | cons c r ih =>
    by_cases hc : c = 48
    · subst hc; simpa using ih
    · simp [hc]
theorem plain_same {l : List UInt8} (h : isNum l = true) : plainC l = plainR l := by
  unfold isNum at h
  unfold plainC plainR
  by_cases h45 : l.head? = some 45
  · simp only [h45, if_true] at h ⊢
    simp only [Bool.and_eq_true, Bool.not_eq_true', List.isEmpty_eq_false_iff] at h
    rw [strip_digits l.tail h.1 h.2]
    by_cases hz : l.tail.dropWhile (· == 48) = []
    · simp [hz]
    · rw [if_neg hz, if_neg hz, if_neg (drop48_ne _)]
  · simp only [h45, if_false] at h ⊢
    simp only [Bool.and_eq_true, Bool.not_eq_true', List.isEmpty_eq_false_iff] at h
    rw [strip_digits l h.1 h.2]

/-- has a datum that is no list the kind and the text of a token? (the document's words; t3: the token's kind) -/
def leafR (d : Dat) : Bool := decide (1 ≤ d.kind) && decide (d.kind ≤ 4) && decide (d.list.length = 0) && validT ⟨d.kind + 3, d.text, 0⟩ && (d.kind != 2 || (plainR d.text.data.toList == d.text.data.toList && decide (digs d.text ≤ 200)))
def leafC (d : Dat) : Bool := decide (1 ≤ d.kind) && decide (d.kind ≤ 4) && decide (d.list.length = 0) && validT ⟨d.kind + 3, d.text, 0⟩ && (d.kind != 2 || (plainC d.text.data.toList == d.text.data.toList && decide (digs d.text ≤ 200)))

/-- the code's Right, with so many levels left -/
def rightD : Nat → Dat → Bool
  | 0, d => if d.kind = 5 then false else leafC d
  | n + 1, d => if d.kind = 5 then decide (d.text.size = 0) && d.list.all (rightD n) else leafC d
/-- the document's depth, with so many levels left -/
def depthD : Nat → Dat → Nat
  | 0, d => if d.kind = 5 then 100 else 0
  | n + 1, d => if d.kind = 5 then d.list.foldl (fun m x => max m (depthD n x)) 0 + 1 else 0
/-- may a datum be, but for its depth? -/
def fitsD : Nat → Dat → Bool
  | 0, d => if d.kind = 5 then false else leafR d
  | n + 1, d => if d.kind = 5 then d.list.all (fitsD n) && decide (d.text.size = 0) else leafR d
/-- the document's Size -/
def sizeD : Nat → Dat → Nat
  | 0, _ => 100000
  | n + 1, d => d.list.foldl (fun m x => if m < 100000 then min (m + sizeD n x) 100000 else m) (1 + min d.text.size 100000)

mutual
/-- the bytes of a datum -/
def textD : Dat → List UInt8
  | .mk k t l => if k = 5 then 40 :: ((textsD l).drop 1 ++ [41]) else spellL (k + 3) t
/-- each behind a space -/
def textsD : List Dat → List UInt8
  | [] => []
  | d :: r => 32 :: (textD d ++ textsD r)
end
theorem textD_eq (d : Dat) : textD d = if d.kind = 5 then 40 :: ((textsD d.list).drop 1 ++ [41]) else spellL (d.kind + 3) d.text := by cases d; simp [textD, Dat.kind, Dat.text, Dat.list]
theorem textsD_app : ∀ l m : List Dat, textsD (l ++ m) = textsD l ++ textsD m
  | [], m => by simp [textsD]
  | d :: r, m => by simp [textsD, textsD_app r m]
theorem textsD_snoc (l : List Dat) (k : Nat) (h : k < l.length) : textsD (l.take (k + 1)) = textsD (l.take k) ++ 32 :: textD (l.getD k dat0) := by
  rw [List.take_succ_eq_append_getElem h, textsD_app]
  simp [textsD, List.getD_eq_getElem?_getD, h]

/-- a list that is open, and whether it ends with its first datum but one -/
abbrev Fr := Bool × List Dat
def quoteD : Dat := .mk 1 ⟨#[113, 117, 111, 116, 101]⟩ []
def listD (l : List Dat) : Dat := .mk 5 ⟨#[]⟩ l
/-- a datum laid where it belongs -/
def pushD : List Fr → List Dat → Dat → List Fr × List Dat
  | [], base, d => ([], base ++ [d])
  | (false, es) :: fs, base, d => ((false, es ++ [d]) :: fs, base)
  | (true, es) :: fs, base, d => pushD fs base (listD (es ++ [d]))
inductive RRes where
  | ok (l : List Dat)
  | err (at_ : Int) (code : Int)
/-- P3.1, token by token -/
def runD (N : Int) : List Fr → List Dat → List Tok → RRes
  | fs, base, [] => if fs = [] then .ok base else .err N 3
  | fs, base, t :: r =>
    if t.kind = 1 then (if 60 ≤ fs.length then .err t.pos 13 else runD N ((false, []) :: fs) base r)
    else if t.kind = 3 then (if 60 ≤ fs.length then .err t.pos 13 else runD N ((true, [quoteD]) :: fs) base r)
    else if t.kind = 2 then
      match fs with
      | (false, es) :: fs' => runD N (pushD fs' base (listD es)).1 (pushD fs' base (listD es)).2 r
      | _ => .err t.pos 2
    else if t.kind = 5 then
      (if 200 < digs t.text then .err t.pos 13 else runD N (pushD fs base (.mk 2 ⟨(plainR t.text.data.toList).toArray⟩ [])).1 (pushD fs base (.mk 2 ⟨(plainR t.text.data.toList).toArray⟩ [])).2 r)
    else runD N (pushD fs base (.mk (t.kind - 3) t.text [])).1 (pushD fs base (.mk (t.kind - 3) t.text [])).2 r
/-- what Read answers -/
def readN (N : Nat) (l : List UInt8) : RRes :=
  match lexN N l with
  | .ok ts => runD N [] [] ts
  | .err p c => .err p c
end Go.Proofs.YtghgjefobfaodaaDoor

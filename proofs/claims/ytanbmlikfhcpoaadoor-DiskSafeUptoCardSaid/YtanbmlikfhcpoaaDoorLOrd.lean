/-
  Orders that answer -1, 0 or 1: of bytes, of texts, of labels, of lists of labels. Own text, without the program.
-/
import Derived.Test.YtanbmlikfhcpoaaDoorLPure
import Derived.Sort.Statements
namespace Go.Proofs.YtanbmlikfhcpoaaDoor.Lab
open Go.RowKit Go Go.Proofs.YtanbmlikfhcpoaaDoor.Base

/-- an order that answers -1, 0 or 1, and 0 only for one and the same -/
structure Ord3 {α : Type} (f : α → α → Int) : Prop where
  rng : ∀ a b, f a b = -1 ∨ f a b = 0 ∨ f a b = 1
  swap : ∀ a b, f b a = - f a b
  eq : ∀ a b, f a b = 0 → a = b
  trans : ∀ a b c, f a b ≤ 0 → f b c ≤ 0 → f a c ≤ 0

theorem Ord3.refl {α : Type} {f : α → α → Int} (h : Ord3 f) (a : α) : f a a = 0 := by
  have := h.swap a a; omega
/-- below, then not above: below -/
theorem Ord3.lt_le {α : Type} {f : α → α → Int} (h : Ord3 f) {a b c : α} (h1 : f a b < 0) (h2 : f b c ≤ 0) : f a c < 0 := by
  have h3 := h.trans a b c (by omega) h2
  rcases h.rng a c with e | e | e
  · omega
  · have e2 := h.eq a c e
    subst e2
    have := h.swap a b
    have := h.rng a b
    omega
  · omega
theorem Ord3.le_lt {α : Type} {f : α → α → Int} (h : Ord3 f) {a b c : α} (h1 : f a b ≤ 0) (h2 : f b c < 0) : f a c < 0 := by
  have h3 := h.trans a b c h1 (by omega)
  rcases h.rng a c with e | e | e
  · omega
  · have e2 := h.eq a c e
    subst e2
    have := h.swap a b
    omega
  · omega

def lexP {α β : Type} (f : α → α → Int) (g : β → β → Int) (x y : α × β) : Int := if f x.1 y.1 ≠ 0 then f x.1 y.1 else g x.2 y.2
theorem lexP_ord {α β : Type} {f : α → α → Int} {g : β → β → Int} (hf : Ord3 f) (hg : Ord3 g) : Ord3 (lexP f g) where
  rng a b := by
    unfold lexP
    have h1 := hf.rng a.1 b.1
    have h2 := hg.rng a.2 b.2
    split <;> omega
  swap a b := by
    unfold lexP
    have h1 := hf.swap a.1 b.1
    have h2 := hg.swap a.2 b.2
    by_cases h : f a.1 b.1 = 0
    · rw [if_neg (by omega), if_neg (by omega)]; exact h2
    · rw [if_pos (by omega), if_pos (by omega)]; exact h1
  eq a b h := by
    unfold lexP at h
    by_cases h0 : f a.1 b.1 = 0
    · rw [if_neg (by omega)] at h
      have e1 := hf.eq _ _ h0
      have e2 := hg.eq _ _ h
      cases a; cases b
      simp only at e1 e2
      rw [e1, e2]
    · rw [if_pos (by omega)] at h
      omega
  trans a b c h1 h2 := by
    unfold lexP at *
    by_cases x : f a.1 b.1 = 0
    · rw [if_neg (by omega)] at h1
      have e := hf.eq _ _ x
      rw [e]
      by_cases y : f b.1 c.1 = 0
      · rw [if_neg (by omega)] at h2 ⊢
        exact hg.trans _ _ _ h1 h2
      · rw [if_pos y] at h2 ⊢
        exact h2
    · rw [if_pos x] at h1
      have hab : f a.1 b.1 < 0 := by omega
      by_cases y : f b.1 c.1 = 0
      · have e := hf.eq _ _ y
        rw [← e, if_pos x]
        omega
      · rw [if_pos y] at h2
        have := hf.lt_le hab (c := c.1) (by omega)
        rw [if_pos (by omega)]
        omega

def lexL {α : Type} (f : α → α → Int) : List α → List α → Int
  | [], [] => 0
  | [], _ :: _ => -1
  | _ :: _, [] => 1
  | x :: r, y :: s => if f x y ≠ 0 then f x y else lexL f r s

theorem lexL_cons {α : Type} (f : α → α → Int) (x y : α) (r s : List α) : lexL f (x :: r) (y :: s) = if f x y ≠ 0 then f x y else lexL f r s := rfl

theorem lexL_ord {α : Type} {f : α → α → Int} (hf : Ord3 f) : Ord3 (lexL f) where
  rng a := by
    induction a with
    | nil => intro b; cases b <;> simp [lexL]
    | cons x a ih =>
      intro b
      cases b with
      | nil => simp [lexL]
      | cons y b =>
        unfold lexL
        have h1 := hf.rng x y
        have h2 := ih b
        split <;> omega
  swap a := by
    induction a with
    | nil => intro b; cases b <;> simp [lexL]
    | cons x a ih =>
      intro b
      cases b with
      | nil => simp [lexL]
      | cons y b =>
        unfold lexL
        have h1 := hf.swap x y
        have h2 := ih b
        by_cases h : f x y = 0
        · rw [if_neg (by omega), if_neg (by omega)]; exact h2
        · rw [if_pos (by omega), if_pos (by omega)]; exact h1
  eq a := by
    induction a with
    | nil => intro b; cases b <;> simp [lexL]
    | cons x a ih =>
      intro b h
      cases b with
      | nil => simp [lexL] at h
      | cons y b =>
        unfold lexL at h
        by_cases h0 : f x y = 0
        · rw [if_neg (by omega)] at h
          rw [hf.eq _ _ h0, ih b h]
        · rw [if_pos (by omega)] at h
          omega
  trans a := by
    induction a with
    | nil => intro b c _ h2; cases c <;> simp [lexL]
    | cons x a ih =>
      intro b c h1 h2
      cases b with
      | nil => simp [lexL] at h1
      | cons y b =>
        cases c with
        | nil => simp [lexL] at h2
        | cons z c =>
          rw [lexL_cons] at h1 h2 ⊢
          by_cases e1 : f x y = 0
          · rw [if_neg (by omega)] at h1
            have e := hf.eq _ _ e1
            rw [e]
            by_cases e2 : f y z = 0
            · rw [if_neg (by omega)] at h2 ⊢
              exact ih b c h1 h2
            · rw [if_pos e2] at h2 ⊢
              exact h2
          · rw [if_pos e1] at h1
            have hab : f x y < 0 := by omega
            by_cases e2 : f y z = 0
            · have e := hf.eq _ _ e2
              rw [← e, if_pos e1]
              omega
            · rw [if_pos e2] at h2
              have := hf.lt_le hab (c := z) (by omega)
              rw [if_pos (by omega)]
              omega

def ord8 (a b : UInt8) : Int := if a < b then -1 else if b < a then 1 else 0
theorem ord8_ord : Ord3 ord8 where
  rng a b := by unfold ord8; split; simp; split <;> simp
  swap a b := by
    unfold ord8
    simp only [UInt8.lt_iff_toNat_lt]
    split <;> split <;> omega
  eq a b h := by
    unfold ord8 at h
    simp only [UInt8.lt_iff_toNat_lt] at h
    apply UInt8.toNat_inj.1
    split at h
    · omega
    · split at h <;> omega
  trans a b c h1 h2 := by
    unfold ord8 at *
    simp only [UInt8.lt_iff_toNat_lt] at *
    split at h1 <;> split at h2 <;> split <;> (try split) <;> (try split at h1) <;> (try split at h2) <;> omega

theorem compareBytes_lex : ∀ a b : List UInt8, Lib.compareBytes a b = lexL ord8 a b
  | [], [] => rfl
  | [], _ :: _ => rfl
  | _ :: _, [] => rfl
  | x :: a, y :: b => by
    rw [Lib.compareBytes, lexL_cons, compareBytes_lex a b]
    generalize lexL ord8 a b = r
    unfold ord8
    by_cases h1 : x < y
    · simp [h1]
    · by_cases h2 : y < x <;> simp [h1, h2]

def cmpS (a b : ByteArray) : Int := Lib.compareBytes (lst a) (lst b)
theorem cmpS_ord : Ord3 cmpS where
  rng a b := by unfold cmpS; rw [compareBytes_lex]; exact (lexL_ord ord8_ord).rng _ _
  swap a b := by unfold cmpS; rw [compareBytes_lex, compareBytes_lex]; exact (lexL_ord ord8_ord).swap _ _
  eq a b h := by unfold cmpS at h; rw [compareBytes_lex] at h; exact lst_inj ((lexL_ord ord8_ord).eq _ _ h)
  trans a b c h1 h2 := by unfold cmpS at *; rw [compareBytes_lex] at *; exact (lexL_ord ord8_ord).trans _ _ _ h1 h2

def cmpLab (x y : Lab) : Int := if cmpS x.n y.n ≠ 0 then cmpS x.n y.n else cmpS x.v y.v
theorem cmpLab_ord : Ord3 cmpLab where
  rng a b := (lexP_ord cmpS_ord cmpS_ord).rng (a.n, a.v) (b.n, b.v)
  swap a b := (lexP_ord cmpS_ord cmpS_ord).swap (a.n, a.v) (b.n, b.v)
  eq a b h := by
    have := (lexP_ord cmpS_ord cmpS_ord).eq (a.n, a.v) (b.n, b.v) h
    cases a; cases b
    injection this with h1 h2
    simp only at h1 h2
    rw [h1, h2]
  trans a b c := (lexP_ord cmpS_ord cmpS_ord).trans (a.n, a.v) (b.n, b.v) (c.n, c.v)

/-- how two lists stand to one another -/
abbrev cmpL := lexL cmpLab
theorem cmpL_ord : Ord3 cmpL := lexL_ord cmpLab_ord

theorem lexL_step {α : Type} [Inhabited α] (f : α → α → Int) (a b : List α) (k : Nat) (h1 : k < a.length) (h2 : k < b.length) :
    lexL f (a.drop k) (b.drop k) = if f a[k]! b[k]! ≠ 0 then f a[k]! b[k]! else lexL f (a.drop (k + 1)) (b.drop (k + 1)) := by
  rw [List.drop_eq_getElem_cons h1, List.drop_eq_getElem_cons h2, lexL, getElem!_pos a k h1, getElem!_pos b k h2]
theorem lexL_long {α : Type} (f : α → α → Int) (a b : List α) (k : Nat) (h1 : k < a.length) (h2 : b.length ≤ k) : lexL f (a.drop k) (b.drop k) = 1 := by
  rw [List.drop_eq_getElem_cons h1, List.drop_eq_nil_of_le h2]; rfl
theorem lexL_short {α : Type} (f : α → α → Int) (a b : List α) (h : a.length < b.length) : lexL f (a.drop a.length) (b.drop a.length) = -1 := by
  rw [List.drop_length, List.drop_eq_getElem_cons h]; rfl
theorem lexL_done {α : Type} (f : α → α → Int) (a b : List α) (h : a.length = b.length) : lexL f (a.drop a.length) (b.drop a.length) = 0 := by
  rw [List.drop_length, h, List.drop_length]; rfl

theorem toL_data (d : ByteArray) : d.toList = d.data.toList := by
  have h : ∀ n (i : Nat) (r : List UInt8), d.size - i = n → ByteArray.toList.loop d i r = r.reverse ++ d.data.toList.drop i := by
    intro n
    induction n with
    | zero =>
      intro i r hi
      rw [ByteArray.toList.loop, if_neg (by omega), List.drop_of_length_le (by simp; omega), List.append_nil]
    | succ n ih =>
      intro i r hi
      have hlt : i < d.size := by omega
      rw [ByteArray.toList.loop, if_pos hlt, ih (i + 1) _ (by omega)]
      have hl : i < d.data.toList.length := by simpa using hlt
      rw [List.drop_eq_getElem_cons hl, List.reverse_cons, List.append_assoc]
      congr 2
      simp only [ByteArray.get!]
      rw [getElem!_pos d.data i (by simpa using hlt)]
      simp
  have := h d.size 0 [] rfl
  simpa [ByteArray.toList] using this

theorem str_eq {a b : ByteArray} (h : a = b) : (a.toList == b.toList) = true := by rw [h]; simp
theorem str_ne {a b : ByteArray} (h : ¬ a = b) : (a.toList == b.toList) = false := by
  rw [beq_eq_false_iff_ne]
  intro e
  rw [toL_data, toL_data] at e
  exact h (lst_inj e)

theorem less_cmp (a b : ByteArray) : Op.bytesLess a.toList b.toList = decide (cmpS a b < 0) := by
  rw [toL_data, toL_data]
  unfold cmpS lst
  generalize a.data.toList = x
  generalize b.data.toList = y
  induction x generalizing y with
  | nil => cases y <;> simp [Op.bytesLess, Lib.compareBytes]
  | cons x r ih =>
    cases y with
    | nil => simp [Op.bytesLess, Lib.compareBytes]
    | cons y s =>
      rw [Op.bytesLess, Lib.compareBytes, ih s]
      by_cases h1 : x < y
      · simp [h1]
      · by_cases h2 : y < x
        · have h3 : ¬ x = y := fun e => by subst e; exact h1 h2
          simp [h1, h2, h3]
        · have h3 : x = y := by
            apply UInt8.toNat_inj.1
            simp only [UInt8.lt_iff_toNat_lt] at h1 h2
            omega
          subst h3
          simp [h1]

/-- how two texts stand to one another, in all the spellings -/
inductive Cmp3 (x y : ByteArray) : Prop
  | lt (h : cmpS x y = -1) (h1 : Op.bytesLess x.toList y.toList = true) (h2 : Op.bytesLess y.toList x.toList = false) (h3 : (x.toList == y.toList) = false) (h4 : ¬ x = y)
  | eq (h : cmpS x y = 0) (h1 : Op.bytesLess x.toList y.toList = false) (h2 : Op.bytesLess y.toList x.toList = false) (h3 : (x.toList == y.toList) = true) (h4 : x = y)
  | gt (h : cmpS x y = 1) (h1 : Op.bytesLess x.toList y.toList = false) (h2 : Op.bytesLess y.toList x.toList = true) (h3 : (x.toList == y.toList) = false) (h4 : ¬ x = y)
theorem cmp3 (x y : ByteArray) : Cmp3 x y := by
  have hs := cmpS_ord.swap x y
  rcases cmpS_ord.rng x y with h | h | h
  · have hn : ¬ x = y := fun e => by subst e; rw [cmpS_ord.refl] at h; cases h
    exact .lt h (by rw [less_cmp]; simp; omega) (by rw [less_cmp]; simp; omega) (str_ne hn) hn
  · have he := cmpS_ord.eq _ _ h
    exact .eq h (by rw [less_cmp]; simp; omega) (by rw [less_cmp]; simp; omega) (str_eq he) he
  · have hn : ¬ x = y := fun e => by subst e; rw [cmpS_ord.refl] at h; cases h
    exact .gt h (by rw [less_cmp]; simp; omega) (by rw [less_cmp]; simp; omega) (str_ne hn) hn

end Go.Proofs.YtanbmlikfhcpoaaDoor.Lab

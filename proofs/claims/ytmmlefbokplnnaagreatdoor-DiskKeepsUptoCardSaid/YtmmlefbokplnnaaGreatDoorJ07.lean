/-
  The texts LOrd, KIns, joined. Own text.
-/
import Derived.Test.YtmmlefbokplnnaaGreatDoorJ06
import Derived.Sort.Statements
import Derived.Test.YtmmlefbokplnnaaGreatDoorJ04
set_option linter.unusedVariables false
set_option linter.unusedSimpArgs false
namespace Go.Proofs.YtmmlefbokplnnaaGreatDoor.Lab
open Go.RowKit Go Go.Proofs.YtmmlefbokplnnaaGreatDoor.Base

/-- an order that answers -1, 0 or 1, and 0 only for one and the same -/
structure Ord3 {α : Type} (f : α → α → Int) : Prop where
  rng : ∀ a b, f a b = -1 ∨ f a b = 0 ∨ f a b = 1
  swap : ∀ a b, f b a = - f a b
  eq : ∀ a b, f a b = 0 → a = b
  trans : ∀ a b c, f a b ≤ 0 → f b c ≤ 0 → f a c ≤ 0

theorem Ord3.refl {α : Type} {f : α → α → Int} (h : Ord3 f) (a : α) : f a a = 0 := by
  have := h.swap a a; omega
/-- below, then not above: below -/
theorem Ord3.lt_le {α : Type} {f : α → α → Int} (h : Ord3 f) {a b c : α} (h1 : f a b < 0) (h2 : f b c ≤ 0) : f a c < 0 := by
  have h3 := h.trans a b c (by omega) h2
  rcases h.rng a c with e | e | e
  · omega
  · have e2 := h.eq a c e
    subst e2
    have := h.swap a b
    have := h.rng a b
    omega
  · omega
theorem Ord3.le_lt {α : Type} {f : α → α → Int} (h : Ord3 f) {a b c : α} (h1 : f a b ≤ 0) (h2 : f b c < 0) : f a c < 0 := by
  have h3 := h.trans a b c h1 (by omega)
  rcases h.rng a c with e | e | e
  · omega
  · have e2 := h.eq a c e
    subst e2
    have := h.swap a b
    omega
  · omega

def lexP {α β : Type} (f : α → α → Int) (g : β → β → Int) (x y : α × β) : Int := if f x.1 y.1 ≠ 0 then f x.1 y.1 else g x.2 y.2
theorem lexP_ord {α β : Type} {f : α → α → Int} {g : β → β → Int} (hf : Ord3 f) (hg : Ord3 g) : Ord3 (lexP f g) where
  rng a b := by
    unfold lexP
    have h1 := hf.rng a.1 b.1
    have h2 := hg.rng a.2 b.2
    split <;> omega
  swap a b := by
    unfold lexP
    have h1 := hf.swap a.1 b.1
    have h2 := hg.swap a.2 b.2
    by_cases h : f a.1 b.1 = 0
    · rw [if_neg (by omega), if_neg (by omega)]; exact h2
    · rw [if_pos (by omega), if_pos (by omega)]; exact h1
  eq a b h := by
    unfold lexP at h
    by_cases h0 : f a.1 b.1 = 0
    · rw [if_neg (by omega)] at h
      have e1 := hf.eq _ _ h0
      have e2 := hg.eq _ _ h
      cases a; cases b
      simp only at e1 e2
      rw [e1, e2]
    · rw [if_pos (by omega)] at h
      omega
  trans a b c h1 h2 := by
    unfold lexP at *
    by_cases x : f a.1 b.1 = 0
    · rw [if_neg (by omega)] at h1
      have e := hf.eq _ _ x
      rw [e]
      by_cases y : f b.1 c.1 = 0
      · rw [if_neg (by omega)] at h2 ⊢
        exact hg.trans _ _ _ h1 h2
      · rw [if_pos y] at h2 ⊢
        exact h2
    · rw [if_pos x] at h1
      have hab : f a.1 b.1 < 0 := by omega
      by_cases y : f b.1 c.1 = 0
      · have e := hf.eq _ _ y
        rw [← e, if_pos x]
        omega
      · rw [if_pos y] at h2
        have := hf.lt_le hab (c := c.1) (by omega)
        rw [if_pos (by omega)]
        omega

def lexL {α : Type} (f : α → α → Int) : List α → List α → Int
  | [], [] => 0
  | [], _ :: _ => -1
  | _ :: _, [] => 1
  | x :: r, y :: s => if f x y ≠ 0 then f x y else lexL f r s

theorem lexL_cons {α : Type} (f : α → α → Int) (x y : α) (r s : List α) : lexL f (x :: r) (y :: s) = if f x y ≠ 0 then f x y else lexL f r s := rfl

theorem lexL_ord {α : Type} {f : α → α → Int} (hf : Ord3 f) : Ord3 (lexL f) where
  rng a := by
    induction a with
    | nil => intro b; cases b <;> simp [lexL]
    | cons x a ih =>
      intro b
      cases b with
      | nil => simp [lexL]
      | cons y b =>
        unfold lexL
        have h1 := hf.rng x y
        have h2 := ih b
        split <;> omega
  swap a := by
    induction a with
    | nil => intro b; cases b <;> simp [lexL]
    | cons x a ih =>
      intro b
      cases b with
      | nil => simp [lexL]
      | cons y b =>
        unfold lexL
        have h1 := hf.swap x y
        have h2 := ih b
        by_cases h : f x y = 0
        · rw [if_neg (by omega), if_neg (by omega)]; exact h2
        · rw [if_pos (by omega), if_pos (by omega)]; exact h1
  eq a := by
    induction a with
    | nil => intro b; cases b <;> simp [lexL]
    | cons x a ih =>
      intro b h
      cases b with
      | nil => simp [lexL] at h
      | cons y b =>
        unfold lexL at h
        by_cases h0 : f x y = 0
        · rw [if_neg (by omega)] at h
          rw [hf.eq _ _ h0, ih b h]
        · rw [if_pos (by omega)] at h
          omega
  trans a := by
    induction a with
    | nil => intro b c _ h2; cases c <;> simp [lexL]
    | cons x a ih =>
      intro b c h1 h2
      cases b with
      | nil => simp [lexL] at h1
      | cons y b =>
        cases c with
        | nil => simp [lexL] at h2
        | cons z c =>
          rw [lexL_cons] at h1 h2 ⊢
          by_cases e1 : f x y = 0
          · rw [if_neg (by omega)] at h1
            have e := hf.eq _ _ e1
            rw [e]
            by_cases e2 : f y z = 0
            · rw [if_neg (by omega)] at h2 ⊢
              exact ih b c h1 h2
            · rw [if_pos e2] at h2 ⊢
              exact h2
          · rw [if_pos e1] at h1
            have hab : f x y < 0 := by omega
            by_cases e2 : f y z = 0
            · have e := hf.eq _ _ e2
              rw [← e, if_pos e1]
              omega
            · rw [if_pos e2] at h2
              have := hf.lt_le hab (c := z) (by omega)
              rw [if_pos (by omega)]
              omega

def ord8 (a b : UInt8) : Int := if a < b then -1 else if b < a then 1 else 0
theorem ord8_ord : Ord3 ord8 where
  rng a b := by unfold ord8; split; simp; split <;> simp
  swap a b := by
    unfold ord8
    simp only [UInt8.lt_iff_toNat_lt]
    split <;> split <;> omega
  eq a b h := by
    unfold ord8 at h
    simp only [UInt8.lt_iff_toNat_lt] at h
    apply UInt8.toNat_inj.1
    split at h
    · omega
    · split at h <;> omega
  trans a b c h1 h2 := by
    unfold ord8 at *
    simp only [UInt8.lt_iff_toNat_lt] at *
    split at h1 <;> split at h2 <;> split <;> (try split) <;> (try split at h1) <;> (try split at h2) <;> omega

theorem compareBytes_lex : ∀ a b : List UInt8, Lib.compareBytes a b = lexL ord8 a b
  | [], [] => rfl
  | [], _ :: _ => rfl
  | _ :: _, [] => rfl
  | x :: a, y :: b => by
    rw [Lib.compareBytes, lexL_cons, compareBytes_lex a b]
    generalize lexL ord8 a b = r
    unfold ord8
    by_cases h1 : x < y
    · simp [h1]
    · by_cases h2 : y < x <;> simp [h1, h2]

def cmpS (a b : ByteArray) : Int := Lib.compareBytes (lst a) (lst b)
theorem cmpS_ord : Ord3 cmpS where
  rng a b := by unfold cmpS; rw [compareBytes_lex]; exact (lexL_ord ord8_ord).rng _ _
  swap a b := by unfold cmpS; rw [compareBytes_lex, compareBytes_lex]; exact (lexL_ord ord8_ord).swap _ _
  eq a b h := by unfold cmpS at h; rw [compareBytes_lex] at h; exact lst_inj ((lexL_ord ord8_ord).eq _ _ h)
  trans a b c h1 h2 := by unfold cmpS at *; rw [compareBytes_lex] at *; exact (lexL_ord ord8_ord).trans _ _ _ h1 h2

def cmpLab (x y : Lab) : Int := if cmpS x.n y.n ≠ 0 then cmpS x.n y.n else cmpS x.v y.v
theorem cmpLab_ord : Ord3 cmpLab where
  rng a b := (lexP_ord cmpS_ord cmpS_ord).rng (a.n, a.v) (b.n, b.v)
  swap a b := (lexP_ord cmpS_ord cmpS_ord).swap (a.n, a.v) (b.n, b.v)
  eq a b h := by
    have := (lexP_ord cmpS_ord cmpS_ord).eq (a.n, a.v) (b.n, b.v) h
    cases a; cases b
    injection this with h1 h2
    simp only at h1 h2
    rw [h1, h2]
  trans a b c := (lexP_ord cmpS_ord cmpS_ord).trans (a.n, a.v) (b.n, b.v) (c.n, c.v)

/-- how two lists stand to one another -/
abbrev cmpL := lexL cmpLab
theorem cmpL_ord : Ord3 cmpL := lexL_ord cmpLab_ord

theorem lexL_step {α : Type} [Inhabited α] (f : α → α → Int) (a b : List α) (k : Nat) (h1 : k < a.length) (h2 : k < b.length) :
    lexL f (a.drop k) (b.drop k) = if f a[k]! b[k]! ≠ 0 then f a[k]! b[k]! else lexL f (a.drop (k + 1)) (b.drop (k + 1)) := by
  rw [List.drop_eq_getElem_cons h1, List.drop_eq_getElem_cons h2, lexL, getElem!_pos a k h1, getElem!_pos b k h2]
theorem lexL_long {α : Type} (f : α → α → Int) (a b : List α) (k : Nat) (h1 : k < a.length) (h2 : b.length ≤ k) : lexL f (a.drop k) (b.drop k) = 1 := by
  rw [List.drop_eq_getElem_cons h1, List.drop_eq_nil_of_le h2]; rfl
theorem lexL_short {α : Type} (f : α → α → Int) (a b : List α) (h : a.length < b.length) : lexL f (a.drop a.length) (b.drop a.length) = -1 := by
  rw [List.drop_length, List.drop_eq_getElem_cons h]; rfl
theorem lexL_done {α : Type} (f : α → α → Int) (a b : List α) (h : a.length = b.length) : lexL f (a.drop a.length) (b.drop a.length) = 0 := by
  rw [List.drop_length, h, List.drop_length]; rfl

theorem toL_data (d : ByteArray) : d.toList = d.data.toList := by
  have h : ∀ n (i : Nat) (r : List UInt8), d.size - i = n → ByteArray.toList.loop d i r = r.reverse ++ d.data.toList.drop i := by
    intro n
    induction n with
    | zero =>
      intro i r hi
      rw [ByteArray.toList.loop, if_neg (by omega), List.drop_of_length_le (by simp; omega), List.append_nil]
    | succ n ih =>
      intro i r hi
      have hlt : i < d.size := by omega
      rw [ByteArray.toList.loop, if_pos hlt, ih (i + 1) _ (by omega)]
      have hl : i < d.data.toList.length := by simpa using hlt
      rw [List.drop_eq_getElem_cons hl, List.reverse_cons, List.append_assoc]
      congr 2
      simp only [ByteArray.get!]
      rw [getElem!_pos d.data i (by simpa using hlt)]
      simp
  have := h d.size 0 [] rfl
  simpa [ByteArray.toList] using this

theorem str_eq {a b : ByteArray} (h : a = b) : (a.toList == b.toList) = true := by rw [h]; simp
theorem str_ne {a b : ByteArray} (h : ¬ a = b) : (a.toList == b.toList) = false := by
  rw [beq_eq_false_iff_ne]
  intro e
  rw [toL_data, toL_data] at e
  exact h (lst_inj e)

theorem less_cmp (a b : ByteArray) : Op.bytesLess a.toList b.toList = decide (cmpS a b < 0) := by
  rw [toL_data, toL_data]
  unfold cmpS lst
  generalize a.data.toList = x
  generalize b.data.toList = y
  induction x generalizing y with
  | nil => cases y <;> simp [Op.bytesLess, Lib.compareBytes]
  | cons x r ih =>
    cases y with
    | nil => simp [Op.bytesLess, Lib.compareBytes]
    | cons y s =>
      rw [Op.bytesLess, Lib.compareBytes, ih s]
      by_cases h1 : x < y
      · simp [h1]
      · by_cases h2 : y < x
        · have h3 : ¬ x = y := fun e => by subst e; exact h1 h2
          simp [h1, h2, h3]
        · have h3 : x = y := by
            apply UInt8.toNat_inj.1
            simp only [UInt8.lt_iff_toNat_lt] at h1 h2
            omega
          subst h3
          simp [h1]

/-- how two texts stand to one another, in all the spellings -/
inductive Cmp3 (x y : ByteArray) : Prop
  | lt (h : cmpS x y = -1) (h1 : Op.bytesLess x.toList y.toList = true) (h2 : Op.bytesLess y.toList x.toList = false) (h3 : (x.toList == y.toList) = false) (h4 : ¬ x = y)
  | eq (h : cmpS x y = 0) (h1 : Op.bytesLess x.toList y.toList = false) (h2 : Op.bytesLess y.toList x.toList = false) (h3 : (x.toList == y.toList) = true) (h4 : x = y)
  | gt (h : cmpS x y = 1) (h1 : Op.bytesLess x.toList y.toList = false) (h2 : Op.bytesLess y.toList x.toList = true) (h3 : (x.toList == y.toList) = false) (h4 : ¬ x = y)
theorem cmp3 (x y : ByteArray) : Cmp3 x y := by
  have hs := cmpS_ord.swap x y
  rcases cmpS_ord.rng x y with h | h | h
  · have hn : ¬ x = y := fun e => by subst e; rw [cmpS_ord.refl] at h; cases h
    exact .lt h (by rw [less_cmp]; simp; omega) (by rw [less_cmp]; simp; omega) (str_ne hn) hn
  · have he := cmpS_ord.eq _ _ h
    exact .eq h (by rw [less_cmp]; simp; omega) (by rw [less_cmp]; simp; omega) (str_eq he) he
  · have hn : ¬ x = y := fun e => by subst e; rw [cmpS_ord.refl] at h; cases h
    exact .gt h (by rw [less_cmp]; simp; omega) (by rw [less_cmp]; simp; omega) (str_ne hn) hn

end Go.Proofs.YtmmlefbokplnnaaGreatDoor.Lab

namespace Go.Proofs.YtmmlefbokplnnaaGreatDoor.Disk
open Go.RowKit Go Go.Proofs.YtmmlefbokplnnaaGreatDoor.Base
open Go.Proofs.YtmmlefbokplnnaaGreatDoor.Lab (cmpS cmpS_ord)

instance : Inhabited Ent := ⟨⟨ByteArray.empty, false, 0⟩⟩
/-- names rise -/
def AscE (l : List Ent) : Prop := l.Pairwise fun x y => cmpS x.name y.name < 0
/-- x stands at place j -/
def putAt (S : List Ent) (x : Ent) (j : Nat) : List Ent := S.take j ++ x :: S.drop j
theorem putAt_end (S : List Ent) (x : Ent) : putAt S x S.length = S ++ [x] := by
  unfold putAt; rw [List.take_length, List.drop_length]
theorem putAt_length (S : List Ent) (x : Ent) (j : Nat) (h : j ≤ S.length) : (putAt S x j).length = S.length + 1 := by
  unfold putAt; rw [List.length_append, List.length_cons, List.length_take, List.length_drop]; omega
theorem putAt_at (S : List Ent) (x : Ent) (j : Nat) (h : j ≤ S.length) : (putAt S x j)[j]! = x := by
  rw [getElem!_pos _ j (by rw [putAt_length S x j h]; omega)]
  unfold putAt
  rw [List.getElem_append_right (by rw [List.length_take]; omega)]
  simp only [List.length_take]
  have : j - min j S.length = 0 := by omega
  simp [this]
theorem putAt_before (S : List Ent) (x : Ent) (j : Nat) (h : j + 1 ≤ S.length) : (putAt S x (j + 1))[j]! = S[j]! := by
  rw [getElem!_pos _ j (by rw [putAt_length S x (j + 1) h]; omega), getElem!_pos S j (by omega)]
  unfold putAt
  rw [List.getElem_append_left (by rw [List.length_take]; omega), List.getElem_take]
theorem putAt_swap (S : List Ent) (x : Ent) (j : Nat) (h : j + 1 ≤ S.length) : ((putAt S x (j + 1)).set (j + 1) S[j]!).set j x = putAt S x j := by
  apply List.ext_getElem?
  intro i
  unfold putAt
  rw [getElem!_pos S j (by omega)]
  rw [List.getElem?_set, List.getElem?_set]
  have hl1 : (S.take (j + 1)).length = j + 1 := by rw [List.length_take]; omega
  have hl2 : (S.take j).length = j := by rw [List.length_take]; omega
  by_cases h1 : j = i
  · subst h1
    rw [if_pos rfl, List.length_set, List.length_append, hl1, if_pos (by omega), List.getElem?_append_right (by omega), hl2, Nat.sub_self]
    rfl
  · rw [if_neg h1]
    by_cases h2 : j + 1 = i
    · subst h2
      rw [if_pos rfl, List.length_append, hl1, List.length_cons, if_pos (by omega), List.getElem?_append_right (by omega), hl2, show j + 1 - j = 1 by omega, List.getElem?_cons_succ, List.getElem?_drop, Nat.add_zero, List.getElem?_eq_getElem (by omega)]
    · rw [if_neg h2]
      by_cases h3 : i < j
      · rw [List.getElem?_append_left (by omega), List.getElem?_append_left (by omega), List.getElem?_take, List.getElem?_take, if_pos (by omega), if_pos h3]
      · rw [List.getElem?_append_right (by omega), List.getElem?_append_right (by omega), hl1, hl2]
        obtain ⟨d, rfl⟩ : ∃ d, i = j + 2 + d := ⟨i - (j + 2), by omega⟩
        rw [show j + 2 + d - (j + 1) = d + 1 by omega, show j + 2 + d - j = d + 1 + 1 by omega, List.getElem?_cons_succ, List.getElem?_cons_succ, List.getElem?_drop, List.getElem?_drop, show j + 1 + d = j + (d + 1) by omega]
theorem putAt_perm (S : List Ent) (x : Ent) (j : Nat) : (putAt S x j).Perm (S ++ [x]) := by
  unfold putAt
  refine List.perm_middle.trans ?_
  rw [List.take_append_drop]
  exact (List.perm_append_singleton x S).symm

theorem ascE_pair {S : List Ent} (hS : AscE S) {i j : Nat} (hij : i < j) (hj : j < S.length) : cmpS S[i]!.name S[j]!.name < 0 := by
  rw [getElem!_pos S i (by omega), getElem!_pos S j hj]
  exact List.pairwise_iff_getElem.1 hS i j (by omega) hj hij

/-- where the walk downwards stops, names rise -/
theorem putAt_asc {S : List Ent} {x : Ent} {j : Nat} (hS : AscE S) (hj : j ≤ S.length) (hn : ∀ y ∈ S, y.name ≠ x.name) (hup : ∀ i, j ≤ i → i < S.length → cmpS x.name S[i]!.name < 0) (hlo : j = 0 ∨ ¬ cmpS x.name S[j - 1]!.name < 0) : AscE (putAt S x j) := by
  unfold putAt AscE
  refine List.pairwise_append.2 ⟨List.Pairwise.sublist (List.take_sublist _ _) hS, List.pairwise_cons.2 ⟨?_, List.Pairwise.sublist (List.drop_sublist _ _) hS⟩, ?_⟩
  · intro y hy
    obtain ⟨i, hi, rfl⟩ := List.mem_iff_getElem.1 hy
    rw [List.length_drop] at hi
    rw [List.getElem_drop]
    have := hup (j + i) (by omega) (by omega)
    rwa [getElem!_pos S (j + i) (by omega)] at this
  · have hlow : ∀ y ∈ S.take j, cmpS y.name x.name < 0 := by
      intro y hy
      obtain ⟨i, hi, rfl⟩ := List.mem_iff_getElem.1 hy
      rw [List.length_take] at hi
      rw [List.getElem_take]
      rcases hlo with h | h
      · omega
      · have h1 : cmpS S[j - 1]!.name x.name < 0 := by
          have := cmpS_ord.swap x.name S[j - 1]!.name
          have hne : cmpS S[j - 1]!.name x.name ≠ 0 := fun e => hn S[j - 1]! (by rw [getElem!_pos S (j - 1) (by omega)]; exact List.getElem_mem _) (cmpS_ord.eq _ _ e)
          omega
        by_cases e : i = j - 1
        · subst e
          rwa [getElem!_pos S (j - 1) (by omega)] at h1
        · have h2 : cmpS S[i]!.name S[j - 1]!.name < 0 := ascE_pair hS (by omega) (by omega)
          rw [getElem!_pos S i (by omega)] at h2
          exact cmpS_ord.lt_le h2 (by omega)
    intro a ha b hb
    have h1 := hlow a ha
    rcases List.mem_cons.1 hb with rfl | hb
    · exact h1
    · obtain ⟨i, hi, rfl⟩ := List.mem_iff_getElem.1 hb
      rw [List.length_drop] at hi
      rw [List.getElem_drop]
      have := hup (j + i) (by omega) (by omega)
      rw [getElem!_pos S (j + i) (by omega)] at this
      exact cmpS_ord.lt_le h1 (by omega)

def insAt (S : List Ent) (x : Ent) : Nat → List Ent
  | 0 => putAt S x 0
  | j + 1 => if cmpS x.name S[j]!.name < 0 then insAt S x j else putAt S x (j + 1)
def insE (S : List Ent) (x : Ent) : List Ent := insAt S x S.length

theorem insAt_perm (S : List Ent) (x : Ent) : ∀ j, (insAt S x j).Perm (S ++ [x])
  | 0 => putAt_perm S x 0
  | j + 1 => by
    unfold insAt
    split
    · exact insAt_perm S x j
    · exact putAt_perm S x (j + 1)
theorem insE_perm (S : List Ent) (x : Ent) : (insE S x).Perm (S ++ [x]) := insAt_perm S x _
theorem insE_length (S : List Ent) (x : Ent) : (insE S x).length = S.length + 1 := by
  have := (insE_perm S x).length_eq
  simpa using this

theorem insAt_asc {S : List Ent} {x : Ent} (hS : AscE S) (hn : ∀ y ∈ S, y.name ≠ x.name) : ∀ j, j ≤ S.length → (∀ i, j ≤ i → i < S.length → cmpS x.name S[i]!.name < 0) → AscE (insAt S x j)
  | 0, hj, hup => putAt_asc hS hj hn hup (.inl rfl)
  | j + 1, hj, hup => by
    unfold insAt
    split
    · rename_i h
      refine insAt_asc hS hn j (by omega) fun i h1 h2 => ?_
      by_cases e : i = j
      · rw [e]; exact h
      · exact hup i (by omega) h2
    · rename_i h
      exact putAt_asc hS hj hn hup (.inr h)
theorem insE_asc {S : List Ent} {x : Ent} (hS : AscE S) (hn : ∀ y ∈ S, y.name ≠ x.name) : AscE (insE S x) :=
  insAt_asc hS hn _ (Nat.le_refl _) fun i h1 h2 => by omega

/-- one behind the other -/
def insL (l : List Ent) : List Ent := l.foldl insE []

theorem foldl_ins : ∀ (l S : List Ent), (l.foldl insE S).Perm (S ++ l)
  | [], S => by simp
  | x :: r, S => by
    refine (foldl_ins r (insE S x)).trans ?_
    have := (insE_perm S x).append_right r
    simpa using this
theorem insL_perm (l : List Ent) : (insL l).Perm l := by have := foldl_ins l []; rw [List.nil_append] at this; exact this

theorem foldl_asc : ∀ (l S : List Ent), AscE S → ((S ++ l).map (·.name)).Nodup → AscE (l.foldl insE S)
  | [], S, h, _ => h
  | x :: r, S, h, hn => by
    have hn2 : ((S ++ [x]).map (·.name) ++ r.map (·.name)).Nodup := by simpa using hn
    refine foldl_asc r (insE S x) (insE_asc h fun y hy e => ?_) ?_
    · rw [List.map_append, List.map_cons] at hn
      rw [List.nodup_append] at hn
      exact hn.2.2 y.name (List.mem_map.2 ⟨y, hy, rfl⟩) x.name (List.mem_cons_self ..) e
    · have hp : ((insE S x ++ r).map (·.name)).Perm ((S ++ [x]).map (·.name) ++ r.map (·.name)) := by
        rw [List.map_append]
        exact ((insE_perm S x).map _).append_right _
      exact (hp.nodup_iff).2 hn2
theorem insL_asc {l : List Ent} (hn : (l.map (·.name)).Nodup) : AscE (insL l) := foldl_asc l [] List.Pairwise.nil (by simpa using hn)

/-- two lists in one order that hold the same are one -/
theorem asc_unique {α : Type} {R : α → α → Prop} (hR : ∀ x y, R x y → ¬ R y x) : ∀ {a b : List α}, a.Pairwise R → b.Pairwise R → a.Perm b → a = b
  | [], b, _, _, hp => by have := hp.length_eq; exact (List.eq_nil_of_length_eq_zero (by simpa using this.symm)).symm
  | x :: r, [], _, _, hp => by have := hp.length_eq; simp at this
  | x :: r, y :: s, ha, hb, hp => by
    rw [List.pairwise_cons] at ha hb
    have hxy : x = y := by
      have h1 : x ∈ y :: s := (hp.mem_iff).1 (List.mem_cons_self ..)
      have h2 : y ∈ x :: r := (hp.mem_iff).2 (List.mem_cons_self ..)
      rcases List.mem_cons.1 h1 with h | h
      · exact h
      · rcases List.mem_cons.1 h2 with h' | h'
        · exact h'.symm
        · exact absurd (hb.1 x h) (hR _ _ (ha.1 y h'))
    subst hxy
    rw [asc_unique hR ha.2 hb.2 (hp.cons_inv)]

theorem ascE_unique {a b : List Ent} (ha : AscE a) (hb : AscE b) (hp : a.Perm b) : a = b :=
  asc_unique (fun x y h h' => by have := cmpS_ord.swap x.name y.name; omega) ha hb hp

end Go.Proofs.YtmmlefbokplnnaaGreatDoor.Disk

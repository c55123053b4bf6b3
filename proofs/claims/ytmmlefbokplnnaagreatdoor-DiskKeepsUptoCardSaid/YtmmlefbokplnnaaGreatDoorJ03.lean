/-
  The texts DFile, joined. Own text.
-/
import Derived.WalkKit
set_option linter.unusedVariables false
set_option linter.unusedSimpArgs false
namespace Go.Proofs.YtmmlefbokplnnaaGreatDoor.Disk

/-- a step of the program: a cut with what it took, or a number of bytes that were added -/
inductive PStep where
  | cut (taken : List Nat)
  | add (n : Nat)

def PStep.units : PStep → Nat
  | .cut _ => 1
  | .add n => n

/-- a file of the program -/
structure PF where
  bytes : List Nat
  steps : List PStep

def unitsOf (l : List PStep) : Nat := (l.map PStep.units).sum

/-- the last units are undone: the steps come the last one first -/
def undoR : List PStep → List Nat → Nat → List Nat × Bool
  | [], b, _ => (b, false)
  | .cut t :: r, b, n => if n = 0 then (b, false) else ((undoR r (b ++ t) (n - 1)).1, true)
  | .add k :: r, b, n => if n = 0 then (b, false) else undoR r (b.take (b.length - min n k)) (n - min n k)

/-- a change, as the document keeps it -/
structure Change where
  text : List Nat
  cut : Bool
  size : Nat

def Change.units (c : Change) : Nat := c.text.length + (if c.cut then 1 else 0)
def changeUnits (l : List Change) : Nat := (l.map Change.units).sum

/-- the first units are replayed; the flag: no cut was lost -/
def replay : List Change → List Nat → Nat → Bool → List Nat × Bool
  | [], now, _, z => (now, z)
  | c :: r, now, left, z =>
    if c.cut then (if 0 < left then replay r (now.take c.size) (left - 1) z else replay r now 0 false)
    else replay r (now ++ c.text.take (min c.text.length left)) (left - min c.text.length left) z

/-- a file of the document -/
structure FB where
  now : List Nat
  safe : List Nat
  steps : List Change

def FB.fit (f : FB) : Prop := ∀ c ∈ f.steps, c.cut = true → c.text = []

theorem undoR_zero (l : List PStep) (b : List Nat) : undoR l b 0 = (b, false) := by
  cases l with
  | nil => rfl
  | cons s r => cases s <;> simp [undoR]

theorem changeUnits_append (l m : List Change) : changeUnits (l ++ m) = changeUnits l + changeUnits m := by
  simp [changeUnits]
theorem unitsOf_append (l m : List PStep) : unitsOf (l ++ m) = unitsOf l + unitsOf m := by
  simp [unitsOf]

theorem replay_append (s1 s2 : List Change) (hf : ∀ c ∈ s1, c.cut = true → c.text = []) : ∀ now left z,
    replay (s1 ++ s2) now left z = replay s2 (replay s1 now left z).1 (left - changeUnits s1) (replay s1 now left z).2 := by
  induction s1 with
  | nil => intro now left z; simp [replay, changeUnits]
  | cons c r ih =>
    intro now left z
    have ih := ih (fun c hc => hf c (by simp [hc]))
    have e : changeUnits (c :: r) = c.units + changeUnits r := by simp [changeUnits]
    rw [List.cons_append, replay, replay, e]
    by_cases hc : c.cut = true
    · have hu : c.units = 1 := by unfold Change.units; rw [hf c (by simp) hc, hc]; rfl
      rw [if_pos hc, if_pos hc, hu]
      by_cases hl : 0 < left
      · rw [if_pos hl, if_pos hl, ih]
        rw [show left - 1 - changeUnits r = left - (1 + changeUnits r) from by omega]
      · rw [if_neg hl, if_neg hl, ih]
        rw [show 0 - changeUnits r = left - (1 + changeUnits r) from by omega]
    · have hu : c.units = c.text.length := by unfold Change.units; simp [hc]
      rw [if_neg hc, if_neg hc, hu, ih]
      rw [show left - min c.text.length left - changeUnits r = left - (c.text.length + changeUnits r) from by omega]

theorem replay_full (s : List Change) (hf : ∀ c ∈ s, c.cut = true → c.text = []) : ∀ now left z, changeUnits s ≤ left → replay s now left z = replay s now (changeUnits s) z := by
  induction s with
  | nil => intro now left z _; rfl
  | cons c r ih =>
    intro now left z hl
    have ih := ih (fun c hc => hf c (by simp [hc]))
    have e : changeUnits (c :: r) = c.units + changeUnits r := by simp [changeUnits]
    rw [e] at hl ⊢
    rw [replay, replay]
    by_cases hc : c.cut = true
    · have hu : c.units = 1 := by unfold Change.units; rw [hf c (by simp) hc, hc]; rfl
      rw [hu] at hl ⊢
      rw [if_pos hc, if_pos hc, if_pos (by omega), if_pos (by omega), ih _ _ _ (by omega)]
      rw [show 1 + changeUnits r - 1 = changeUnits r from by omega]
    · have hu : c.units = c.text.length := by unfold Change.units; simp [hc]
      rw [hu] at hl ⊢
      rw [if_neg hc, if_neg hc, show min c.text.length left = c.text.length from by omega, show min c.text.length (c.text.length + changeUnits r) = c.text.length from by omega, ih _ _ _ (by omega)]
      rw [show c.text.length + changeUnits r - c.text.length = changeUnits r from by omega]

/-- the program's file and the document's say the same -/
structure FRel (p : PF) (f : FB) : Prop where
  fit : ∀ c ∈ f.steps, c.cut = true → c.text = []
  now : p.bytes = f.now
  units : unitsOf p.steps = changeUnits f.steps
  back : ∀ lost, lost ≤ changeUnits f.steps → (undoR p.steps.reverse p.bytes lost).1 = (replay f.steps f.safe (changeUnits f.steps - lost) true).1 ∧ (undoR p.steps.reverse p.bytes lost).2 = !(replay f.steps f.safe (changeUnits f.steps - lost) true).2

theorem FRel.fresh (b : List Nat) : FRel ⟨b, []⟩ ⟨b, b, []⟩ :=
  ⟨by simp, rfl, rfl, fun lost hl => by simp [changeUnits] at hl; subst hl; simp [undoR, replay]⟩

/-- bytes are added: the last step grows, or a new one comes -/
def PF.add (p : PF) (t : List Nat) : PF :=
  ⟨p.bytes ++ t, match p.steps.reverse with | .add k :: r => (PStep.add (k + t.length) :: r).reverse | _ => p.steps ++ [.add t.length]⟩

theorem undo_add (r : List PStep) (k n : Nat) (b t : List Nat) (hn : t.length = n) (lost : Nat) :
    undoR (.add (k + n) :: r) (b ++ t) lost = if lost ≤ n then (b ++ t.take (n - lost), false) else undoR (.add k :: r) b (lost - n) := by
  by_cases h0 : lost = 0
  · subst h0
    rw [undoR_zero, if_pos (Nat.zero_le _), Nat.sub_zero, ← hn, List.take_length]
  · rw [undoR, if_neg h0]
    by_cases h : lost ≤ n
    · rw [if_pos h, show min lost (k + n) = lost from by omega, Nat.sub_self, undoR_zero]
      congr 1
      rw [List.length_append, List.take_append, List.take_of_length_le (by omega)]
      congr 2
      omega
    · rw [if_neg h, undoR, if_neg (by omega)]
      have e1 : lost - min lost (k + n) = lost - n - min (lost - n) k := by omega
      rw [e1]
      congr 1
      rw [List.length_append, List.take_append_of_le_length (by omega)]
      congr 1
      omega

theorem undo_new (r : List PStep) (n : Nat) (b t : List Nat) (hn : t.length = n) (lost : Nat) :
    undoR (.add n :: r) (b ++ t) lost = if lost ≤ n then (b ++ t.take (n - lost), false) else undoR r b (lost - n) := by
  have h := undo_add r 0 n b t hn lost
  rw [Nat.zero_add] at h
  rw [h]
  by_cases hl : lost ≤ n
  · rw [if_pos hl, if_pos hl]
  · rw [if_neg hl, if_neg hl, undoR, if_neg (by omega)]
    simp

theorem PF.undo_of_add (p : PF) (t : List Nat) (lost : Nat) :
    undoR (p.add t).steps.reverse (p.add t).bytes lost = if lost ≤ t.length then (p.bytes ++ t.take (t.length - lost), false) else undoR p.steps.reverse p.bytes (lost - t.length) := by
  unfold PF.add
  simp only
  cases hr : p.steps.reverse with
  | nil =>
    simp only [List.reverse_append, List.reverse_cons, List.reverse_nil, List.nil_append, List.singleton_append, hr]
    exact undo_new [] _ _ _ rfl lost
  | cons s r =>
    cases s with
    | cut tk =>
      simp only [List.reverse_append, List.reverse_cons, List.reverse_nil, List.nil_append, List.singleton_append, hr]
      exact undo_new (PStep.cut tk :: r) _ _ _ rfl lost
    | add k =>
      simp only [List.reverse_reverse]
      exact undo_add r k _ _ _ rfl lost

theorem PF.units_of_add (p : PF) (t : List Nat) : unitsOf (p.add t).steps = unitsOf p.steps + t.length := by
  unfold PF.add
  simp only
  cases hr : p.steps.reverse with
  | nil => simp [unitsOf, PStep.units]
  | cons s r =>
    cases s with
    | cut tk => simp [unitsOf, PStep.units]
    | add k =>
      have e : p.steps = (PStep.add k :: r).reverse := by rw [← hr, List.reverse_reverse]
      rw [e]
      simp [unitsOf, PStep.units]
      omega

theorem FRel.add {p : PF} {f : FB} (h : FRel p f) (t : List Nat) : FRel (p.add t) ⟨f.now ++ t, f.safe, f.steps ++ [⟨t, false, 0⟩]⟩ := by
  have hu : changeUnits (f.steps ++ [⟨t, false, 0⟩]) = changeUnits f.steps + t.length := by
    rw [changeUnits_append]; simp [changeUnits, Change.units]
  refine ⟨?_, ?_, ?_, ?_⟩
  · intro c hc
    simp only [List.mem_append, List.mem_singleton] at hc
    rcases hc with hc | rfl
    · exact h.fit c hc
    · intro hh; cases hh
  · show p.bytes ++ t = f.now ++ t
    rw [h.now]
  · rw [PF.units_of_add]; show _ = changeUnits (f.steps ++ _); rw [hu, h.units]
  · intro lost hl
    simp only at hl ⊢
    rw [hu] at hl ⊢
    rw [PF.undo_of_add, replay_append _ _ h.fit]
    have h0 := h.back 0 (Nat.zero_le _)
    rw [undoR_zero, Nat.sub_zero] at h0
    by_cases hc : lost ≤ t.length
    · rw [if_pos hc, replay_full f.steps h.fit f.safe _ true (by omega)]
      have e2 : (replay f.steps f.safe (changeUnits f.steps) true).2 = true := by
        have := h0.2
        simp only at this
        cases hx : (replay f.steps f.safe (changeUnits f.steps) true).2
        · rw [hx] at this; cases this
        · rfl
      rw [e2, ← h0.1]
      simp only [replay]
      rw [if_neg (by simp), show changeUnits f.steps + t.length - lost - changeUnits f.steps = t.length - lost from by omega, show min t.length (t.length - lost) = t.length - lost from by omega]
      exact ⟨rfl, rfl⟩
    · rw [if_neg hc]
      obtain ⟨h1, h2⟩ := h.back (lost - t.length) (by omega)
      rw [show changeUnits f.steps + t.length - lost = changeUnits f.steps - (lost - t.length) from by omega]
      rw [show changeUnits f.steps - (lost - t.length) - changeUnits f.steps = 0 from by omega]
      simp only [replay]
      rw [if_neg (by simp), Nat.min_zero, List.take_zero, List.append_nil]
      exact ⟨h1, h2⟩

/-- bytes are cut away -/
def PF.cutTo (p : PF) (n : Nat) : PF := ⟨p.bytes.take n, p.steps ++ [.cut (p.bytes.drop n)]⟩

theorem FRel.cutTo {p : PF} {f : FB} (h : FRel p f) (n : Nat) : FRel (p.cutTo n) ⟨f.now.take n, f.safe, f.steps ++ [⟨[], true, n⟩]⟩ := by
  have hu : changeUnits (f.steps ++ [⟨[], true, n⟩]) = changeUnits f.steps + 1 := by
    rw [changeUnits_append]; simp [changeUnits, Change.units]
  refine ⟨?_, ?_, ?_, ?_⟩
  · intro c hc
    simp only [List.mem_append, List.mem_singleton] at hc
    rcases hc with hc | rfl
    · exact h.fit c hc
    · intro _; rfl
  · show p.bytes.take n = f.now.take n
    rw [h.now]
  · unfold PF.cutTo; simp only; rw [unitsOf_append, hu, h.units]; rfl
  · intro lost hl
    simp only at hl ⊢
    rw [hu] at hl ⊢
    rw [replay_append _ _ h.fit]
    unfold PF.cutTo
    simp only [List.reverse_append, List.reverse_cons, List.reverse_nil, List.nil_append, List.singleton_append]
    have h0 := h.back 0 (Nat.zero_le _)
    rw [undoR_zero, Nat.sub_zero] at h0
    by_cases hc : lost = 0
    · subst hc
      rw [undoR_zero, replay_full f.steps h.fit f.safe _ true (by omega)]
      have e2 : (replay f.steps f.safe (changeUnits f.steps) true).2 = true := by
        have := h0.2
        simp only at this
        cases hx : (replay f.steps f.safe (changeUnits f.steps) true).2
        · rw [hx] at this; cases this
        · rfl
      rw [e2, ← h0.1]
      simp only [replay]
      rw [if_pos trivial, if_pos (by omega)]
      exact ⟨rfl, rfl⟩
    · rw [undoR, if_neg hc, List.take_append_drop]
      obtain ⟨h1, h2⟩ := h.back (lost - 1) (by omega)
      rw [show changeUnits f.steps + 1 - lost = changeUnits f.steps - (lost - 1) from by omega]
      rw [show changeUnits f.steps - (lost - 1) - changeUnits f.steps = 0 from by omega]
      simp only [replay]
      rw [if_pos trivial, if_neg (by omega)]
      exact ⟨h1, rfl⟩

/-- which part of n things is left -/
def share (wish : Int) (n : Nat) : Nat := if wish < 0 then 0 else (wish.toNat) % (n + 1)
theorem share_le (wish : Int) (n : Nat) : share wish n ≤ n := by
  unfold share
  split
  · omega
  · have := Nat.mod_lt wish.toNat (show 0 < n + 1 by omega); omega

/-- a file behind a Restart -/
def FB.keep (f : FB) (wish : Int) (zeros : Bool) : FB :=
  let u := changeUnits f.steps
  let left := share wish u
  let r := replay f.steps f.safe left true
  let b := if zeros && r.2 then r.1 ++ List.replicate (u - left) 0 else r.1
  ⟨b, b, []⟩

/-- the same of the program's -/
def PF.keep (p : PF) (left : Nat) (zeros : Bool) : PF :=
  let lost := unitsOf p.steps - left
  let r := undoR p.steps.reverse p.bytes lost
  ⟨if zeros && !r.2 then r.1 ++ List.replicate lost 0 else r.1, []⟩

theorem FRel.keep {p : PF} {f : FB} (h : FRel p f) (wish : Int) (zeros : Bool) : FRel (p.keep (share wish (unitsOf p.steps)) zeros) (f.keep wish zeros) := by
  have hs := share_le wish (changeUnits f.steps)
  obtain ⟨h1, h2⟩ := h.back (changeUnits f.steps - share wish (changeUnits f.steps)) (by omega)
  rw [show changeUnits f.steps - (changeUnits f.steps - share wish (changeUnits f.steps)) = share wish (changeUnits f.steps) from by omega] at h1 h2
  have e : p.keep (share wish (unitsOf p.steps)) zeros = ⟨(f.keep wish zeros).now, []⟩ := by
    unfold PF.keep FB.keep
    simp only [h.units, h1, h2, Bool.not_not]
  rw [e]
  exact FRel.fresh _

/-- bytes, at most so many -/
def okB (B : Nat) (b : List Nat) : Prop := b.length ≤ B ∧ ∀ x ∈ b, x < 256
theorem okB.take {B : Nat} {b : List Nat} (h : okB B b) (n : Nat) : okB B (b.take n) := ⟨by have := h.1; rw [List.length_take]; omega, fun x hx => h.2 x (List.mem_of_mem_take hx)⟩

/-- the steps can be undone: as many bytes are there as were added, and never more than B; the steps come the last one first -/
def Good (B : Nat) : List PStep → List Nat → Prop
  | [], b => okB B b
  | .cut t :: r, b => okB B b ∧ Good B r (b ++ t)
  | .add k :: r, b => okB B b ∧ k ≤ b.length ∧ Good B r (b.take (b.length - k))

def PF.Good (B : Nat) (p : PF) : Prop := Disk.Good B p.steps.reverse p.bytes

theorem Good.ok {B : Nat} {l : List PStep} {b : List Nat} (h : Disk.Good B l b) : okB B b := by
  cases l with
  | nil => exact h
  | cons s r => cases s with
    | cut t => exact h.1
    | add k => exact h.1

theorem Good.len {B : Nat} {l : List PStep} {b : List Nat} (h : Disk.Good B l b) : b.length ≤ B := h.ok.1

theorem Good.units {B : Nat} : ∀ {l : List PStep} {b : List Nat}, Disk.Good B l b → unitsOf l ≤ l.length * (B + 1) := by
  intro l
  induction l with
  | nil => intro b _; simp [unitsOf]
  | cons s r ih =>
    intro b h
    have e : unitsOf (s :: r) = s.units + unitsOf r := by simp [unitsOf]
    rw [e, List.length_cons, Nat.succ_mul]
    cases s with
    | cut t => have := ih h.2; simp only [PStep.units]; omega
    | add k => have := ih h.2.2; have := h.1.1; have := h.2.1; simp only [PStep.units]; omega

theorem unitsOf_reverse (l : List PStep) : unitsOf l.reverse = unitsOf l := by simp [unitsOf]

theorem PF.Good.units {B : Nat} {p : PF} (h : p.Good B) : unitsOf p.steps ≤ p.steps.length * (B + 1) := by
  have := Disk.Good.units h
  rwa [unitsOf_reverse, List.length_reverse] at this

theorem PF.Good.fresh {B : Nat} {b : List Nat} (h : okB B b) : PF.Good B ⟨b, []⟩ := h

theorem PF.Good.add {B : Nat} {p : PF} (h : p.Good B) (t : List Nat) (ht : p.bytes.length + t.length ≤ B) (h8 : ∀ x ∈ t, x < 256) : (p.add t).Good B := by
  unfold PF.Good PF.add at *
  simp only
  have hl : okB B (p.bytes ++ t) := ⟨by rw [List.length_append]; omega, fun x hx => by
    rcases List.mem_append.1 hx with hx | hx
    · exact h.ok.2 x hx
    · exact h8 x hx⟩
  have new : Disk.Good B (PStep.add t.length :: p.steps.reverse) (p.bytes ++ t) := by
    refine ⟨hl, by rw [List.length_append]; omega, ?_⟩
    rw [List.length_append, show p.bytes.length + t.length - t.length = p.bytes.length from by omega, List.take_left]
    exact h
  cases hr : p.steps.reverse with
  | nil => simp only [List.reverse_append, List.reverse_cons, List.reverse_nil, List.nil_append, List.singleton_append]; rw [hr] at new; rw [hr]; exact new
  | cons s r =>
    cases s with
    | cut tk => simp only [List.reverse_append, List.reverse_cons, List.reverse_nil, List.nil_append, List.singleton_append]; rw [hr] at new; rw [hr]; exact new
    | add k =>
      simp only [List.reverse_reverse]
      rw [hr] at h
      refine ⟨hl, by rw [List.length_append]; have := h.2.1; omega, ?_⟩
      rw [List.length_append, show p.bytes.length + t.length - (k + t.length) = p.bytes.length - k from by omega, List.take_append_of_le_length (by omega)]
      exact h.2.2

theorem PF.Good.cutTo {B : Nat} {p : PF} (h : p.Good B) (n : Nat) : (p.cutTo n).Good B := by
  unfold PF.Good PF.cutTo at *
  simp only [List.reverse_append, List.reverse_cons, List.reverse_nil, List.nil_append, List.singleton_append]
  refine ⟨h.ok.take n, ?_⟩
  rw [List.take_append_drop]; exact h

theorem Good.undo {B : Nat} : ∀ {l : List PStep} {b : List Nat}, Disk.Good B l b → ∀ n, n ≤ unitsOf l → okB B (undoR l b n).1 ∧ ((undoR l b n).2 = false → (undoR l b n).1.length + n = b.length) := by
  intro l
  induction l with
  | nil => intro b h n hn; simp [unitsOf] at hn; subst hn; exact ⟨h, fun _ => rfl⟩
  | cons s r ih =>
    intro b h n hn
    have e : unitsOf (s :: r) = s.units + unitsOf r := by simp [unitsOf]
    rw [e] at hn
    by_cases h0 : n = 0
    · subst h0; rw [undoR_zero]; exact ⟨h.ok, fun _ => rfl⟩
    · cases s with
      | cut t =>
        rw [undoR, if_neg h0]
        simp only [PStep.units] at hn
        exact ⟨(ih h.2 (n - 1) (by omega)).1, fun hh => by cases hh⟩
      | add k =>
        rw [undoR, if_neg h0]
        simp only [PStep.units] at hn
        have h1 := h.1.1
        have h2 := h.2.1
        by_cases hk : n ≤ k
        · rw [show min n k = n from by omega, Nat.sub_self, undoR_zero]
          refine ⟨h.1.take _, fun _ => ?_⟩
          simp only [List.length_take]
          omega
        · rw [show min n k = k from by omega]
          have := ih h.2.2 (n - k) (by omega)
          refine ⟨this.1, fun hh => ?_⟩
          have := this.2 hh
          rw [List.length_take] at this
          omega

theorem PF.Good.keep {B : Nat} {p : PF} (h : p.Good B) (left : Nat) (zeros : Bool) : (p.keep left zeros).Good B := by
  unfold PF.Good PF.keep at *
  simp only [List.reverse_nil]
  have hu := unitsOf_reverse p.steps
  have := Disk.Good.undo h (unitsOf p.steps - left) (by omega)
  show okB B _
  split
  · rename_i hz
    simp only [Bool.and_eq_true, Bool.not_eq_true'] at hz
    have h3 := this.2 hz.2
    have h4 := h.len
    refine ⟨?_, fun x hx => ?_⟩
    · rw [List.length_append, List.length_replicate]
      omega
    · rcases List.mem_append.1 hx with hx | hx
      · exact this.1.2 x hx
      · rw [List.eq_of_mem_replicate hx]; omega
  · exact this.1

end Go.Proofs.YtmmlefbokplnnaaGreatDoor.Disk

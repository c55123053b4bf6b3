/-
  The texts QRel, QRel2, QRel3, joined. Own text.
-/
import Derived.Test.YtmmlefbokplnnaaGreatDoorJ22
import Derived.Test.YtmmlefbokplnnaaGreatDoorJ14
set_option linter.unusedVariables false
set_option linter.unusedSimpArgs false
namespace Go.Proofs.YtmmlefbokplnnaaGreatDoor.Disk
open Go.RowKit Go Go.Proofs.YtmmlefbokplnnaaGreatDoor.Base Go.Proofs.YtmmlefbokplnnaaGreatDoor.Map

def dirIn (l : List Thing) (p : ByteArray) : Prop := ∃ t ∈ l, t.dir = true ∧ t.path = p
def fileIn (l : List Thing) (p : ByteArray) (i : Nat) : Prop := ∃ t ∈ l, t.dir = false ∧ t.path = p ∧ t.num = i

/-- a list of things that can be -/
structure Wf (l : List Thing) (n : Nat) : Prop where
  paths : (l.map (·.path)).Nodup
  dir : ∀ t ∈ l, t.dir = true → isName t.path = true
  file : ∀ t ∈ l, t.dir = false → isPath t.path = true ∧ ((dirOf t.path).size ≠ 0 → dirIn l (dirOf t.path))
  nums : ∀ t ∈ l, ∀ u ∈ l, t.dir = false → u.dir = false → t.num = u.num → t.path = u.path
  lt : ∀ t ∈ l, t.dir = false → t.num < n

theorem path_inj {l : List Thing} (hn : (l.map (·.path)).Nodup) {x y : Thing} (hx : x ∈ l) (hy : y ∈ l) (h : x.path = y.path) : x = y := by
  induction l with
  | nil => cases hx
  | cons z r ih =>
    simp only [List.map_cons, List.nodup_cons] at hn
    rcases List.mem_cons.1 hx with hx1 | hx1
    · rcases List.mem_cons.1 hy with hy1 | hy1
      · rw [hx1, hy1]
      · exact absurd (show z.path ∈ r.map (fun x => x.path) from List.mem_map.2 ⟨y, hy1, by rw [← hx1]; exact h.symm⟩) hn.1
    · rcases List.mem_cons.1 hy with hy1 | hy1
      · exact absurd (show z.path ∈ r.map (fun x => x.path) from List.mem_map.2 ⟨x, hx1, by rw [← hy1]; exact h⟩) hn.1
      · exact ih hn.2 hx1 hy1

section
variable {l : List Thing} {n : Nat}

theorem Wf.anyPath (h : Wf l n) {t : Thing} (ht : t ∈ l) : isPath t.path = true := by
  cases hd : t.dir
  · exact (h.file t ht hd).1
  · exact name_path (h.dir t ht hd)

theorem find_some (h : Wf l n) {p : ByteArray} {t : Thing} : find l p = some t ↔ t ∈ l ∧ t.path = p := by
  unfold find
  constructor
  · intro hh
    exact ⟨List.mem_of_find?_eq_some hh, by simpa using List.find?_some hh⟩
  · rintro ⟨h1, h2⟩
    cases hf : l.find? fun x => x.path = p with
    | none => have := List.find?_eq_none.1 hf t h1; simp [h2] at this
    | some u =>
      have h3 := List.mem_of_find?_eq_some hf
      have h4 : u.path = p := by simpa using List.find?_some hf
      rw [path_inj h.paths h3 h1 (by rw [h4, h2])]
theorem find_none {p : ByteArray} : find l p = none ↔ ∀ t ∈ l, t.path ≠ p := by
  unfold find
  rw [List.find?_eq_none]
  simp
theorem isAt_two (h : Wf l n) {p : ByteArray} : isAt l p = 2 ↔ dirIn l p := by
  unfold isAt dirIn
  cases hf : find l p with
  | none =>
    have := find_none.1 hf
    constructor
    · intro hh; cases hh
    · rintro ⟨t, h1, _, h2⟩; exact absurd h2 (this t h1)
  | some t =>
    obtain ⟨h1, h2⟩ := (find_some h).1 hf
    simp only
    constructor
    · intro hh
      refine ⟨t, h1, ?_, h2⟩
      cases hd : t.dir
      · rw [hd] at hh; cases hh
      · rfl
    · rintro ⟨u, h3, h4, h5⟩
      have : u = t := path_inj h.paths h3 h1 (by rw [h5, h2])
      subst this
      rw [if_pos h4]
theorem isAt_one (h : Wf l n) {p : ByteArray} : isAt l p = 1 ↔ ∃ i, fileIn l p i := by
  unfold isAt fileIn
  cases hf : find l p with
  | none =>
    have := find_none.1 hf
    constructor
    · intro hh; cases hh
    · rintro ⟨i, t, h1, _, h2, _⟩; exact absurd h2 (this t h1)
  | some t =>
    obtain ⟨h1, h2⟩ := (find_some h).1 hf
    simp only
    constructor
    · intro hh
      refine ⟨t.num, t, h1, ?_, h2, rfl⟩
      cases hd : t.dir
      · rfl
      · rw [hd] at hh; cases hh
    · rintro ⟨i, u, h3, h4, h5, _⟩
      have : u = t := path_inj h.paths h3 h1 (by rw [h5, h2])
      subst this
      rw [h4]; rfl
theorem isAt_zero {p : ByteArray} : isAt l p = 0 ↔ ∀ t ∈ l, t.path ≠ p := by
  unfold isAt
  rw [← find_none]
  cases hf : find l p with
  | none => simp
  | some t => simp; split <;> simp
theorem isAt_lt (p : ByteArray) : isAt l p = 0 ∨ isAt l p = 1 ∨ isAt l p = 2 := by
  unfold isAt
  cases find l p with
  | none => exact .inl rfl
  | some t => simp only; split <;> simp

/-- a tree holds these things -/
structure TRel (g : TreeG) (l : List Thing) : Prop where
  ok : NamesOk g
  dirs : ∀ e, e.size ≠ 0 → (hasDir g e ↔ dirIn l e)
  files : ∀ e m j, hasFile g e m j ↔ ∃ t ∈ l, t.dir = false ∧ dirOf t.path = e ∧ baseOf t.path = m ∧ t.num = j

variable {g g' : TreeG}

theorem TRel.folder (h : TRel g l) (hw : Wf l n) (d : ByteArray) : isFolderG g d = true ↔ d.size = 0 ∨ isAt l d = 2 := by
  unfold isFolderG
  rw [Bool.or_eq_true, decide_eq_true_eq, lookDir_has, isAt_two hw]
  by_cases hd : d.size = 0
  · simp [hd]
  · rw [h.dirs d hd]
theorem TRel.fileAt (h : TRel g l) (hw : Wf l n) {p : ByteArray} (hp : isPath p = true) {j : Nat} : fileOf g p = some j ↔ fileIn l p j := by
  rw [fileOf_iff h.ok, h.files]
  unfold fileIn
  constructor
  · rintro ⟨t, h1, h2, h3, h4, h5⟩
    exact ⟨t, h1, h2, path_ext (hw.file t h1 h2).1 hp h3 h4, h5⟩
  · rintro ⟨t, h1, h2, h3, h4⟩
    exact ⟨t, h1, h2, by rw [h3], by rw [h3], h4⟩
theorem TRel.fileNone (h : TRel g l) (hw : Wf l n) {p : ByteArray} (hp : isPath p = true) : (fileOf g p).isSome = true ↔ isAt l p = 1 := by
  rw [isAt_one hw, Option.isSome_iff_exists]
  exact ⟨fun ⟨j, hj⟩ => ⟨j, (h.fileAt hw hp).1 hj⟩, fun ⟨j, hj⟩ => ⟨j, (h.fileAt hw hp).2 hj⟩⟩
theorem path_size_pos {p : ByteArray} (hp : isPath p = true) : p.size ≠ 0 := by
  intro h0
  have := size_zero h0
  subst this
  revert hp
  decide
theorem TRel.there (h : TRel g l) (hw : Wf l n) {p : ByteArray} (hp : isPath p = true) : existsG g p = true ↔ isAt l p ≠ 0 := by
  unfold existsG
  rw [Bool.or_eq_true, h.folder hw, h.fileNone hw hp]
  have := path_size_pos hp
  rcases isAt_lt (l := l) p with h1 | h1 | h1 <;> simp [h1, this]
theorem TRel.parent (h : TRel g l) (hw : Wf l n) {p : ByteArray} (hp : isPath p = true) : isFolderG g (dirOf p) = true ↔ parent l p = true := by
  rw [h.folder hw]
  unfold Disk.parent
  rcases path_cases hp with ⟨hs, _, h2, _⟩ | ⟨hs, h1, _, h2, _⟩
  · rw [if_neg hs, h2]; simp
  · rw [if_pos hs, ← h2, beq_iff_eq]
    have := name_size h1
    constructor
    · rintro (h3 | h3)
      · omega
      · exact h3
    · exact .inr

/-- a names step that was taken -/
def Valid (l : List Thing) (s : NStep) : Prop :=
  (s.kind = 1 ∧ isName s.a = true ∧ isAt l s.a = 0) ∨
  (s.kind = 2 ∧ isPath s.a = true ∧ Disk.parent l s.a = true ∧ isAt l s.a = 0 ∧ ∀ t ∈ l, t.dir = false → t.num < s.num) ∨
  (s.kind = 3 ∧ isPath s.a = true ∧ isPath s.b = true ∧ (isAt l s.a = 2 → isName s.b = true) ∧ isAt l s.a ≠ 0 ∧ Disk.parent l s.b = true ∧ ¬ (isAt l s.b = 2 ∨ (isAt l s.b = 1 ∧ (isAt l s.a = 2 ∨ s.a = s.b)))) ∨
  (s.kind = 4 ∧ isPath s.a = true ∧ isAt l s.a ≠ 0)

theorem applied_new {s : NStep} (h : s.kind ≠ 3) (h4 : s.kind ≠ 4) : applied l s = l ++ born s := by
  unfold applied
  have : l.filterMap (moved s) = l := by
    have e : moved s = some := by funext x; unfold moved; rw [if_neg h4, if_neg h]
    rw [e, List.filterMap_some]
  rw [this]

theorem mem_drop {s : NStep} (h : s.kind = 4) {t : Thing} : t ∈ applied l s ↔ t ∈ l ∧ t.path ≠ s.a ∧ inside t.path s.a = false := by
  have hb : born s = [] := by unfold born; rw [if_neg (by omega), if_neg (by omega)]
  unfold applied
  rw [hb, List.append_nil, List.mem_filterMap]
  constructor
  · rintro ⟨x, hx, hm⟩
    unfold moved at hm
    rw [if_pos h] at hm
    split at hm
    · cases hm
    · rename_i hh
      injection hm with hm
      subst hm
      exact ⟨hx, fun e => hh (.inl e), by cases hi : inside x.path s.a; rfl; exact absurd (.inr hi) hh⟩
  · rintro ⟨h1, h2, h3⟩
    refine ⟨t, h1, ?_⟩
    unfold moved
    rw [if_pos h, if_neg]
    rintro (h4 | h4)
    · exact h2 h4
    · rw [h3] at h4; cases h4

theorem mem_move {s : NStep} (h : s.kind = 3) {t : Thing} : t ∈ applied l s ↔ ∃ x ∈ l, x.path ≠ s.b ∧ ((x.path = s.a ∧ t = { x with path := s.b }) ∨ (x.path ≠ s.a ∧ inside x.path s.a = true ∧ t = { x with path := s.b ++ x.path.extract s.a.size x.path.size }) ∨ (x.path ≠ s.a ∧ inside x.path s.a = false ∧ t = x)) := by
  have hb : born s = [] := by unfold born; rw [if_neg (by omega), if_neg (by omega)]
  unfold applied
  rw [hb, List.append_nil, List.mem_filterMap]
  constructor
  · rintro ⟨x, hx, hm⟩
    unfold moved at hm
    rw [if_neg (by omega), if_pos h] at hm
    by_cases h1 : x.path = s.b
    · rw [if_pos h1] at hm; cases hm
    · rw [if_neg h1] at hm
      by_cases h2 : x.path = s.a
      · rw [if_pos h2] at hm; injection hm with hm; exact ⟨x, hx, h1, .inl ⟨h2, hm.symm⟩⟩
      · rw [if_neg h2] at hm
        cases h3 : inside x.path s.a
        · rw [h3] at hm; injection hm with hm; exact ⟨x, hx, h1, .inr (.inr ⟨h2, h3, hm.symm⟩)⟩
        · rw [h3] at hm; injection hm with hm; exact ⟨x, hx, h1, .inr (.inl ⟨h2, h3, hm.symm⟩)⟩
  · rintro ⟨x, hx, h1, hh⟩
    refine ⟨x, hx, ?_⟩
    unfold moved
    rw [if_neg (by omega), if_pos h, if_neg h1]
    rcases hh with ⟨h2, rfl⟩ | ⟨h2, h3, rfl⟩ | ⟨h2, h3, rfl⟩
    · rw [if_pos h2]
    · rw [if_neg h2, if_pos h3]
    · rw [if_neg h2, if_neg (by rw [h3]; simp)]

end
end Go.Proofs.YtmmlefbokplnnaaGreatDoor.Disk

namespace Go.Proofs.YtmmlefbokplnnaaGreatDoor.Disk
open Go.RowKit Go Go.Proofs.YtmmlefbokplnnaaGreatDoor.Base Go.Proofs.YtmmlefbokplnnaaGreatDoor.Map

section
variable {l : List Thing} {n : Nat} {g g' : TreeG} {s : NStep}

theorem nodup_filterMap {f : Thing → Option Thing} (hn : (l.map (·.path)).Nodup)
    (hf : ∀ x ∈ l, ∀ y ∈ l, ∀ u v, f x = some u → f y = some v → u.path = v.path → x.path = y.path) : ((l.filterMap f).map (·.path)).Nodup := by
  induction l with
  | nil => exact List.nodup_nil
  | cons a r ih =>
    simp only [List.map_cons, List.nodup_cons] at hn
    have ih := ih hn.2 (fun x hx y hy => hf x (List.mem_cons_of_mem _ hx) y (List.mem_cons_of_mem _ hy))
    rw [List.filterMap_cons]
    cases hfa : f a with
    | none => exact ih
    | some u =>
      simp only [List.map_cons, List.nodup_cons]
      refine ⟨fun hh => ?_, ih⟩
      obtain ⟨v, hv, he⟩ := List.mem_map.1 hh
      obtain ⟨y, hy, hfy⟩ := List.mem_filterMap.1 hv
      have := hf a List.mem_cons_self y (List.mem_cons_of_mem _ hy) u v hfa hfy he.symm
      exact hn.1 (List.mem_map.2 ⟨y, hy, this.symm⟩)

theorem wf_add (h : Wf l n) {t : Thing} (hp : isAt l t.path = 0) (hd : t.dir = true → isName t.path = true) (hf : t.dir = false → isPath t.path = true ∧ Disk.parent l t.path = true ∧ t.num < n ∧ ∀ u ∈ l, u.dir = false → u.num < t.num) : Wf (l ++ [t]) n := by
  have h0 := isAt_zero.1 hp
  have hdir : ∀ e, dirIn l e → dirIn (l ++ [t]) e := fun e ⟨u, h1, h2⟩ => ⟨u, List.mem_append_left _ h1, h2⟩
  refine ⟨?_, ?_, ?_, ?_, ?_⟩
  · rw [List.map_append, List.nodup_append]
    refine ⟨h.paths, by simp, fun a ha b hb => ?_⟩
    simp at hb
    subst hb
    obtain ⟨u, hu, rfl⟩ := List.mem_map.1 ha
    exact h0 u hu
  · intro u hu hud
    rcases List.mem_append.1 hu with hu | hu
    · exact h.dir u hu hud
    · simp at hu; subst hu; exact hd hud
  · intro u hu hud
    rcases List.mem_append.1 hu with hu | hu
    · exact ⟨(h.file u hu hud).1, fun h2 => hdir _ ((h.file u hu hud).2 h2)⟩
    · simp at hu
      subst hu
      obtain ⟨h1, h2, _⟩ := hf hud
      refine ⟨h1, fun h3 => hdir _ ?_⟩
      unfold Disk.parent at h2
      rcases path_cases h1 with ⟨hs, _, h4, _⟩ | ⟨hs, _, _, h4, _⟩
      · rw [h4] at h3; exact absurd rfl h3
      · rw [if_pos hs, ← h4, beq_iff_eq] at h2
        exact (isAt_two h).1 h2
  · intro u hu v hv hud hvd he
    rcases List.mem_append.1 hu with hu1 | hu1 <;> rcases List.mem_append.1 hv with hv1 | hv1
    · exact h.nums u hu1 v hv1 hud hvd he
    · simp at hv1; subst hv1; have := (hf hvd).2.2.2 u hu1 hud; omega
    · simp at hu1; subst hu1; have := (hf hud).2.2.2 v hv1 hvd; omega
    · simp at hu1 hv1; rw [hu1, hv1]
  · intro u hu hud
    rcases List.mem_append.1 hu with hu | hu
    · exact h.lt u hu hud
    · simp at hu; subst hu; exact (hf hud).2.2.1

theorem wf_mono {m : Nat} (h : Wf l n) (hm : n ≤ m) : Wf l m := ⟨h.paths, h.dir, h.file, h.nums, fun t ht hd => Nat.lt_of_lt_of_le (h.lt t ht hd) hm⟩

/-- the directory of a file that lies in one -/
theorem inside_dir (h : Wf l n) {t : Thing} (ht : t ∈ l) {a : ByteArray} (hi : inside t.path a = true) : t.dir = false ∧ a = dirOf t.path ∧ a.size ≠ 0 ∧ dirIn l a := by
  obtain ⟨h1, h2⟩ := (inside_iff (h.anyPath ht)).1 hi
  have hd : t.dir = false := by
    cases hd : t.dir
    · rfl
    · rw [inside_name (h.dir t ht hd)] at hi; cases hi
  refine ⟨hd, h1, h2, ?_⟩
  rw [h1] at h2 ⊢
  exact (h.file t ht hd).2 h2

theorem wf_drop (h : Wf l n) (hk : s.kind = 4) : Wf (applied l s) n := by
  refine ⟨?_, fun t ht hd => h.dir t ((mem_drop hk).1 ht).1 hd, fun t ht hd => ?_, fun t ht u hu => h.nums t ((mem_drop hk).1 ht).1 u ((mem_drop hk).1 hu).1, fun t ht hd => h.lt t ((mem_drop hk).1 ht).1 hd⟩
  · have hb : born s = [] := by unfold born; rw [if_neg (by omega), if_neg (by omega)]
    unfold applied
    rw [hb, List.append_nil]
    refine nodup_filterMap h.paths fun x _ y _ u v hx hy he => ?_
    unfold moved at hx hy
    rw [if_pos hk] at hx hy
    split at hx
    · cases hx
    · split at hy
      · cases hy
      · injection hx with hx; injection hy with hy; rw [hx, hy, he]
  · obtain ⟨h1, h2, h3⟩ := (mem_drop hk).1 ht
    refine ⟨(h.file t h1 hd).1, fun h4 => ?_⟩
    obtain ⟨u, hu, hud, hup⟩ := (h.file t h1 hd).2 h4
    refine ⟨u, (mem_drop hk).2 ⟨hu, fun e => ?_, inside_name (h.dir u hu hud)⟩, hud, hup⟩
    have : inside t.path s.a = true := (inside_iff (h.anyPath h1)).2 ⟨by rw [← e, hup], by rw [← e, hup]; exact h4⟩
    rw [h3] at this
    cases this

/-- what a move asks, said plainly -/
structure Movable (l : List Thing) (a b : ByteArray) : Prop where
  pa : isPath a = true
  pb : isPath b = true
  dirName : dirIn l a → isName b = true
  there : isAt l a ≠ 0
  parent : Disk.parent l b = true
  ne : a ≠ b
  noDir : ¬ dirIn l b
  dirNew : dirIn l a → isAt l b = 0

theorem movable (h : Wf l n) (hv : Valid l s) (hk : s.kind = 3) : Movable l s.a s.b := by
  rcases hv with ⟨k, _⟩ | ⟨k, _⟩ | ⟨_, h1, h2, h3, h4, h5, h6⟩ | ⟨k, _⟩
  · omega
  · omega
  · rw [not_or] at h6
    obtain ⟨h6, h7⟩ := h6
    refine ⟨h1, h2, fun hd => h3 ((isAt_two h).2 hd), h4, h5, fun e => ?_, fun hd => h6 ((isAt_two h).2 hd), fun hd => ?_⟩
    · rcases isAt_lt (l := l) s.b with h8 | h8 | h8
      · rw [e] at h4; exact h4 h8
      · exact h7 ⟨h8, .inr e⟩
      · exact h6 h8
    · rcases isAt_lt (l := l) s.b with h8 | h8 | h8
      · exact h8
      · exact absurd ⟨h8, .inl ((isAt_two h).2 hd)⟩ h7
      · exact absurd h8 h6
  · omega

theorem name_ne_zero {b : ByteArray} (h : isName b = true) : b.size ≠ 0 := by have := name_size h; omega

/-- the path of a thing that was moved -/
theorem moved_cases (h : Wf l n) (hv : Valid l s) (hk : s.kind = 3) {t : Thing} : t ∈ applied l s ↔ ∃ x ∈ l, x.path ≠ s.b ∧ t.dir = x.dir ∧ t.num = x.num ∧
    ((x.path = s.a ∧ t.path = s.b) ∨ (x.path ≠ s.a ∧ x.dir = false ∧ dirOf x.path = s.a ∧ dirIn l s.a ∧ t.path = pathOf s.b (baseOf x.path)) ∨ (x.path ≠ s.a ∧ ¬ (x.dir = false ∧ dirOf x.path = s.a ∧ s.a.size ≠ 0) ∧ t.path = x.path)) := by
  have hm := movable h hv hk
  rw [mem_move hk]
  constructor
  · rintro ⟨x, hx, h1, hh⟩
    rcases hh with ⟨h2, rfl⟩ | ⟨h2, h3, rfl⟩ | ⟨h2, h3, rfl⟩
    · exact ⟨x, hx, h1, rfl, rfl, .inl ⟨h2, rfl⟩⟩
    · obtain ⟨k1, k2, k3, k4⟩ := inside_dir h hx h3
      exact ⟨x, hx, h1, rfl, rfl, .inr (.inl ⟨h2, k1, k2.symm, k4, moved_path (h.anyPath hx) h3 (name_ne_zero (hm.dirName k4))⟩)⟩
    · refine ⟨t, hx, h1, rfl, rfl, .inr (.inr ⟨h2, ?_, rfl⟩)⟩
      rintro ⟨_, k2, k3⟩
      have : inside t.path s.a = true := (inside_iff (h.anyPath hx)).2 ⟨k2.symm, k3⟩
      rw [h3] at this; cases this
  · rintro ⟨x, hx, h1, hd, hn, hh⟩
    have ext : ∀ {u : Thing}, u.dir = x.dir → u.num = x.num → ∀ q, u.path = q → u = { x with path := q } := by
      intro u e1 e2 q e3
      cases u; cases x
      simp_all
    refine ⟨x, hx, h1, ?_⟩
    rcases hh with ⟨h2, h3⟩ | ⟨h2, h3, h4, h5, h6⟩ | ⟨h2, h3, h4⟩
    · exact .inl ⟨h2, ext hd hn _ h3⟩
    · have ha0 : s.a.size ≠ 0 := path_size_pos hm.pa
      have hi : inside x.path s.a = true := (inside_iff (h.anyPath hx)).2 ⟨h4.symm, ha0⟩
      refine .inr (.inl ⟨h2, hi, ext hd hn _ ?_⟩)
      rw [h6, moved_path (h.anyPath hx) hi (name_ne_zero (hm.dirName h5))]
    · refine .inr (.inr ⟨h2, ?_, ?_⟩)
      · cases hi : inside x.path s.a
        · rfl
        · obtain ⟨k1, k2, k3, k4⟩ := inside_dir h hx hi
          exact absurd ⟨k1, k2.symm, k3⟩ h3
      · have := ext hd hn _ h4
        rw [this]

theorem wf_move (h : Wf l n) (hv : Valid l s) (hk : s.kind = 3) : Wf (applied l s) n := by
  have hm := movable h hv hk
  have hbd : ∀ x ∈ l, x.dir = false → dirOf x.path = s.b → s.b.size ≠ 0 → False := fun x hx hd e h0 => hm.noDir (e ▸ (h.file x hx hd).2 (by rw [e]; exact h0))
  have hb0 : s.b.size ≠ 0 := path_size_pos hm.pb
  -- the path says where a thing came from
  have key : ∀ x ∈ l, ∀ y ∈ l, ∀ p q, x.path ≠ s.b → y.path ≠ s.b →
      ((x.path = s.a ∧ p = s.b) ∨ (x.path ≠ s.a ∧ x.dir = false ∧ dirOf x.path = s.a ∧ dirIn l s.a ∧ p = pathOf s.b (baseOf x.path)) ∨ (x.path ≠ s.a ∧ ¬ (x.dir = false ∧ dirOf x.path = s.a ∧ s.a.size ≠ 0) ∧ p = x.path)) →
      ((y.path = s.a ∧ q = s.b) ∨ (y.path ≠ s.a ∧ y.dir = false ∧ dirOf y.path = s.a ∧ dirIn l s.a ∧ q = pathOf s.b (baseOf y.path)) ∨ (y.path ≠ s.a ∧ ¬ (y.dir = false ∧ dirOf y.path = s.a ∧ s.a.size ≠ 0) ∧ q = y.path)) → p = q → x.path = y.path := by
    have aux : ∀ x ∈ l, x.dir = false → dirIn l s.a → dirOf (pathOf s.b (baseOf x.path)) = s.b ∧ baseOf (pathOf s.b (baseOf x.path)) = baseOf x.path := fun x hx hd hda =>
      ⟨dirOf_path (name_noSl (hm.dirName hda)) (name_noSl (path_base (h.file x hx hd).1)), baseOf_path (name_noSl (hm.dirName hda)) (name_noSl (path_base (h.file x hx hd).1))⟩
    have noB : ∀ x ∈ l, x.dir = false → dirIn l s.a → pathOf s.b (baseOf x.path) ≠ s.b := fun x hx hd hda e => by
      have := (aux x hx hd hda).1
      rw [e, dirOf_noSl (name_noSl (hm.dirName hda))] at this
      exact hb0 (by rw [← this]; rfl)
    have noY : ∀ x ∈ l, x.dir = false → dirIn l s.a → ∀ y ∈ l, pathOf s.b (baseOf x.path) ≠ y.path := fun x hx hd hda y hy e => by
      have a1 := (aux x hx hd hda).1
      rw [e] at a1
      cases hyd : y.dir
      · exact hbd y hy hyd a1 hb0
      · rw [dirOf_noSl (name_noSl (h.dir y hy hyd))] at a1
        exact hb0 (by rw [← a1]; rfl)
    intro x hx y hy p q hxb hyb hp hq hpq
    rcases hp with ⟨p1, p2⟩ | ⟨p1, p2, p3, p4, p5⟩ | ⟨p1, p2, p3⟩ <;> rcases hq with ⟨q1, q2⟩ | ⟨q1, q2, q3, q4, q5⟩ | ⟨q1, q2, q3⟩
    · rw [p1, q1]
    · exact absurd (by rw [← q5, ← hpq, p2]) (noB y hy q2 q4)
    · exact absurd (by rw [← q3, ← hpq, p2]) hyb
    · exact absurd (by rw [← p5, hpq, q2]) (noB x hx p2 p4)
    · have e := (aux x hx p2 p4).2
      rw [← p5, hpq, q5, (aux y hy q2 q4).2] at e
      exact path_ext (h.file x hx p2).1 (h.file y hy q2).1 (by rw [p3, q3]) e.symm
    · exact absurd (by rw [← p5, hpq, q3]) (noY x hx p2 p4 y hy)
    · exact absurd (by rw [← p3, hpq, q2]) hxb
    · exact absurd (by rw [← q5, ← hpq, p3]) (noY y hy q2 q4 x hx)
    · rw [← p3, hpq, q3]
  refine ⟨?_, fun t ht hd => ?_, fun t ht hd => ?_, fun t ht u hu htd hud he => ?_, fun t ht hd => ?_⟩
  · have hb : born s = [] := by unfold born; rw [if_neg (by omega), if_neg (by omega)]
    unfold applied
    rw [hb, List.append_nil]
    refine nodup_filterMap h.paths fun x hx y hy u v hu hv' he => ?_
    have mu : u ∈ applied [x] s := by unfold applied; rw [hb, List.append_nil]; exact List.mem_filterMap.2 ⟨x, by simp, hu⟩
    have mv : v ∈ applied [y] s := by unfold applied; rw [hb, List.append_nil]; exact List.mem_filterMap.2 ⟨y, by simp, hv'⟩
    have cases1 : ∀ {x u : Thing}, x ∈ l → u ∈ applied [x] s → x.path ≠ s.b ∧ ((x.path = s.a ∧ u.path = s.b) ∨ (x.path ≠ s.a ∧ x.dir = false ∧ dirOf x.path = s.a ∧ dirIn l s.a ∧ u.path = pathOf s.b (baseOf x.path)) ∨ (x.path ≠ s.a ∧ ¬ (x.dir = false ∧ dirOf x.path = s.a ∧ s.a.size ≠ 0) ∧ u.path = x.path)) := by
      intro x u hx hu
      obtain ⟨z, hz, h1, hh⟩ := (mem_move hk).1 hu
      simp at hz
      subst hz
      refine ⟨h1, ?_⟩
      rcases hh with ⟨h2, rfl⟩ | ⟨h2, h3, rfl⟩ | ⟨h2, h3, rfl⟩
      · exact .inl ⟨h2, rfl⟩
      · obtain ⟨k1, k2, k3, k4⟩ := inside_dir h hx h3
        exact .inr (.inl ⟨h2, k1, k2.symm, k4, moved_path (h.anyPath hx) h3 (name_ne_zero (hm.dirName k4))⟩)
      · refine .inr (.inr ⟨h2, ?_, rfl⟩)
        rintro ⟨_, k2, k3⟩
        have : inside u.path s.a = true := (inside_iff (h.anyPath hx)).2 ⟨k2.symm, k3⟩
        rw [h3] at this; cases this
    obtain ⟨a1, a2⟩ := cases1 hx mu
    obtain ⟨b1, b2⟩ := cases1 hy mv
    exact key x hx y hy _ _ a1 b1 a2 b2 he
  · obtain ⟨x, hx, h1, h2, h3, hh⟩ := (moved_cases h hv hk).1 ht
    rw [h2] at hd
    rcases hh with ⟨k1, k2⟩ | ⟨_, k1, _⟩ | ⟨_, _, k⟩
    · rw [k2]; exact hm.dirName ⟨x, hx, hd, k1⟩
    · rw [hd] at k1; cases k1
    · rw [k]; exact h.dir x hx hd
  · obtain ⟨x, hx, h1, h2, h3, hh⟩ := (moved_cases h hv hk).1 ht
    rw [h2] at hd
    have hxf := h.file x hx hd
    -- a directory that stays, or moves
    have stay : ∀ e, dirIn l e → e ≠ s.a → dirIn (applied l s) e := by
      rintro e ⟨u, hu, hud, rfl⟩ hne
      refine ⟨u, (moved_cases h hv hk).2 ⟨u, hu, fun e => hm.noDir ⟨u, hu, hud, e⟩, rfl, rfl, .inr (.inr ⟨hne, ?_, rfl⟩)⟩, hud, rfl⟩
      rintro ⟨k, _⟩; rw [hud] at k; cases k
    rcases hh with ⟨k1, k2⟩ | ⟨k0, k1, k2, k3, k4⟩ | ⟨k0, k1, k2⟩
    · rw [k2]
      refine ⟨hm.pb, fun h0 => ?_⟩
      have hp := hm.parent
      unfold Disk.parent at hp
      rcases path_cases hm.pb with ⟨hs, _, h4, _⟩ | ⟨hs, _, _, h4, _⟩
      · rw [h4] at h0; exact absurd rfl h0
      · rw [if_pos hs, ← h4, beq_iff_eq] at hp
        refine stay _ ((isAt_two h).1 hp) fun e => ?_
        have hda := (isAt_two h).1 hp
        rw [e] at hda
        have : x = (x : Thing) := rfl
        obtain ⟨u, hu, hud, hup⟩ := hda
        have := path_inj h.paths hu hx (by rw [hup, k1])
        subst this
        rw [hd] at hud; cases hud
    · have hbn := hm.dirName k3
      rw [k4]
      refine ⟨path_of (.inr hbn) (path_base hxf.1), fun _ => ?_⟩
      rw [dirOf_path (name_noSl hbn) (name_noSl (path_base hxf.1))]
      obtain ⟨u, hu, hud, hup⟩ := k3
      exact ⟨{ u with path := s.b }, (moved_cases h hv hk).2 ⟨u, hu, by rw [hup]; exact hm.ne, rfl, rfl, .inl ⟨hup, rfl⟩⟩, hud, rfl⟩
    · rw [k2]
      refine ⟨hxf.1, fun h0 => stay _ (hxf.2 h0) fun e => k1 ⟨hd, e, by rw [← e]; exact h0⟩⟩
  · obtain ⟨x, hx, x1, x2, x3, xh⟩ := (moved_cases h hv hk).1 ht
    obtain ⟨y, hy, y1, y2, y3, yh⟩ := (moved_cases h hv hk).1 hu
    have hxy : x = y := path_inj h.paths hx hy (h.nums x hx y hy (by rw [← x2, htd]) (by rw [← y2, hud]) (by rw [← x3, ← y3, he]))
    subst hxy
    rcases xh with ⟨p1, p2⟩ | ⟨p1, p2, p3, p4, p5⟩ | ⟨p1, p2, p3⟩ <;> rcases yh with ⟨q1, q2⟩ | ⟨q1, q2, q3, q4, q5⟩ | ⟨q1, q2, q3⟩
    · rw [p2, q2]
    · exact absurd p1 q1
    · exact absurd p1 q1
    · exact absurd q1 p1
    · rw [p5, q5]
    · exact absurd ⟨p2, p3, path_size_pos hm.pa⟩ q2
    · exact absurd q1 p1
    · exact absurd ⟨q2, q3, path_size_pos hm.pa⟩ p2
    · rw [p3, q3]
  · obtain ⟨x, hx, x1, x2, x3, _⟩ := (moved_cases h hv hk).1 ht
    rw [x3]
    exact h.lt x hx (by rw [← x2, hd])

/-- A NAMES STEP KEEPS A LIST GOOD -/
theorem wf_applied (h : Wf l n) (hv : Valid l s) (hn : s.kind = 2 → s.num < n) : Wf (applied l s) n := by
  have hv0 := hv
  rcases hv with ⟨k, h1, h2⟩ | ⟨k, h1, h2, h3, h4⟩ | ⟨k, _⟩ | ⟨k, _⟩
  · rw [applied_new (by omega) (by omega)]
    have hb : born s = [⟨s.a, true, 0⟩] := by unfold born; rw [if_pos k]
    rw [hb]
    exact wf_add h h2 (fun _ => h1) (fun hh => by cases hh)
  · rw [applied_new (by omega) (by omega)]
    have hb : born s = [⟨s.a, false, s.num⟩] := by unfold born; rw [if_neg (by omega), if_pos k]
    rw [hb]
    exact wf_add h h3 (fun hh => by cases hh) (fun _ => ⟨h1, h2, hn k, h4⟩)
  · exact wf_move h hv0 k
  · exact wf_drop h k

end
end Go.Proofs.YtmmlefbokplnnaaGreatDoor.Disk

namespace Go.Proofs.YtmmlefbokplnnaaGreatDoor.Disk
open Go.RowKit Go Go.Proofs.YtmmlefbokplnnaaGreatDoor.Base Go.Proofs.YtmmlefbokplnnaaGreatDoor.Map

section
variable {l : List Thing} {n : Nat} {g g' : TreeG} {s : NStep}

theorem dirIn_append {l m : List Thing} {e : ByteArray} : dirIn (l ++ m) e ↔ dirIn l e ∨ dirIn m e := by
  unfold dirIn
  constructor
  · rintro ⟨t, ht, h⟩
    rcases List.mem_append.1 ht with ht | ht
    · exact .inl ⟨t, ht, h⟩
    · exact .inr ⟨t, ht, h⟩
  · rintro (⟨t, ht, h⟩ | ⟨t, ht, h⟩)
    · exact ⟨t, List.mem_append_left _ ht, h⟩
    · exact ⟨t, List.mem_append_right _ ht, h⟩

theorem parent_dir (h : Wf l n) {p : ByteArray} (hp : isPath p = true) (hpar : Disk.parent l p = true) (h0 : (dirOf p).size ≠ 0) : dirIn l (dirOf p) := by
  unfold Disk.parent at hpar
  rcases path_cases hp with ⟨hs, _, h4, _⟩ | ⟨hs, _, _, h4, _⟩
  · rw [h4] at h0; exact absurd rfl h0
  · rw [if_pos hs, ← h4, beq_iff_eq] at hpar
    exact (isAt_two h).1 hpar

theorem trel_mkdir (h : TRel g l) {a : ByteArray} (ha : isName a = true) (h0 : isAt l a = 0) (fm : Option Nat) (b : Nat) : TRel ⟨fm, g.ds ++ [⟨a, b, []⟩]⟩ (l ++ [⟨a, true, 0⟩]) := by
  have hz := isAt_zero.1 h0
  have hnd : ¬ hasDir g a := fun hh => by
    obtain ⟨t, h1, _, h2⟩ := (h.dirs a (name_ne_zero ha)).1 hh
    exact hz t h1 h2
  obtain ⟨s1, s2, s3⟩ := add_sem h.ok hnd fm b
  refine ⟨s1, fun e he => ?_, fun e m j => ?_⟩
  · rw [s2, dirIn_append, h.dirs e he]
    unfold dirIn
    simp
    constructor
    · rintro (h | h)
      · exact .inl h
      · exact .inr h.symm
    · rintro (h | h)
      · exact .inl h
      · exact .inr h.symm
  · rw [s3, h.files]
    constructor
    · rintro ⟨t, ht, h⟩; exact ⟨t, List.mem_append_left _ ht, h⟩
    · rintro ⟨t, ht, h⟩
      rcases List.mem_append.1 ht with ht | ht
      · exact ⟨t, ht, h⟩
      · simp at ht; subst ht; cases h.1

theorem trel_create (h : TRel g l) (hw : Wf l n) {a : ByteArray} {i : Nat} (ha : isPath a = true) (hpar : Disk.parent l a = true) (h0 : isAt l a = 0) (hp : PutTo g g' (dirOf a) (baseOf a) i) : TRel g' (l ++ [⟨a, false, i⟩]) := by
  have hz := isAt_zero.1 h0
  obtain ⟨s1, s2, s3⟩ := put_sem h.ok hp
  refine ⟨s1, fun e he => ?_, fun e m j => ?_⟩
  · rw [s2, dirIn_append, h.dirs e he]
    constructor
    · rintro (h | rfl)
      · exact .inl h
      · exact .inl (parent_dir hw ha hpar he)
    · rintro (h | ⟨t, ht, hd, _⟩)
      · exact .inl h
      · simp at ht; subst ht; cases hd
  · rw [s3, h.files]
    constructor
    · rintro (⟨rfl, rfl, rfl⟩ | ⟨⟨t, ht, h1⟩, _⟩)
      · exact ⟨⟨a, false, j⟩, List.mem_append_right _ (by simp), rfl, rfl, rfl, rfl⟩
      · exact ⟨t, List.mem_append_left _ ht, h1⟩
    · rintro ⟨t, ht, h1, h2, h3, h4⟩
      rcases List.mem_append.1 ht with ht | ht
      · refine .inr ⟨⟨t, ht, h1, h2, h3, h4⟩, fun hh => hz t ht ?_⟩
        exact path_ext (hw.file t ht h1).1 ha (by rw [h2, hh.1]) (by rw [h3, hh.2])
      · simp at ht; subst ht; exact .inl ⟨h2.symm, h3.symm, h4.symm⟩

theorem trel_drop (h : TRel g l) (hw : Wf l n) (hk : s.kind = 4) (ha : isPath s.a = true) (hd : DropTo g g' s.a) : TRel g' (applied l s) := by
  obtain ⟨s1, s2, s3⟩ := drop_sem h.ok hd
  refine ⟨s1, fun e he => ?_, fun e m j => ?_⟩
  · rw [s2, h.dirs e he]
    unfold dirIn
    constructor
    · rintro ⟨⟨t, ht, hd, rfl⟩, hne⟩
      exact ⟨t, (mem_drop hk).2 ⟨ht, hne, inside_name (hw.dir t ht hd)⟩, hd, rfl⟩
    · rintro ⟨t, ht, hd, rfl⟩
      obtain ⟨h1, h2, h3⟩ := (mem_drop hk).1 ht
      exact ⟨⟨t, h1, hd, rfl⟩, h2⟩
  · rw [s3, h.files]
    constructor
    · rintro ⟨⟨t, ht, hd, rfl, rfl, rfl⟩, h1, h2⟩
      refine ⟨t, (mem_drop hk).2 ⟨ht, fun e => h2 ⟨by rw [e], by rw [e]⟩, ?_⟩, hd, rfl, rfl, rfl⟩
      cases hi : inside t.path s.a
      · rfl
      · obtain ⟨_, k2, _⟩ := inside_dir hw ht hi
        exact absurd k2.symm h1
    · rintro ⟨t, ht, hd, rfl, rfl, rfl⟩
      obtain ⟨h1, h2, h3⟩ := (mem_drop hk).1 ht
      refine ⟨⟨t, h1, hd, rfl, rfl, rfl⟩, fun e => ?_, fun hh => h2 (path_ext (hw.file t h1 hd).1 ha hh.1 hh.2)⟩
      have : inside t.path s.a = true := (inside_iff (hw.anyPath h1)).2 ⟨e.symm, path_size_pos ha⟩
      rw [h3] at this; cases this

theorem empty_size : (ByteArray.empty).size = 0 := rfl

theorem trel_move (h : TRel g l) (hw : Wf l n) (hv : Valid l s) (hk : s.kind = 3) (hd : MoveTo g g' s.a s.b) : TRel g' (applied l s) := by
  have hm := movable hw hv hk
  have ha0 := path_size_pos hm.pa
  have hb0 := path_size_pos hm.pb
  have mem := fun {t : Thing} => moved_cases (t := t) hw hv hk
  rcases hd with ⟨x, hx, hd⟩ | ⟨hl, i, gm, hi, hp, hd⟩
  · have hda : dirIn l s.a := (h.dirs _ ha0).1 (lookDir_has.1 (by rw [hx]; rfl))
    have hbn := hm.dirName hda
    have hb1 := isAt_zero.1 (hm.dirNew hda)
    have hnb : ¬ hasDir g s.b := fun hh => hm.noDir ((h.dirs _ hb0).1 hh)
    have han : isName s.a = true := by obtain ⟨u, hu, hud, hup⟩ := hda; rw [← hup]; exact hw.dir u hu hud
    obtain ⟨s1, s2, s3⟩ := moveD_sem h.ok hx hnb hd
    have ea : dirOf s.a = ByteArray.empty := dirOf_noSl (name_noSl han)
    have eb : baseOf s.a = s.a := baseOf_noSl (name_noSl han)
    have noA : ∀ e m j, hasFile g e m j → ¬ (e = dirOf s.a ∧ m = baseOf s.a) := fun e m j hf hh => by
      obtain ⟨t, ht, htd, t1, t2, t3⟩ := (h.files e m j).1 hf
      have : t.path = s.a := path_ext (hw.file t ht htd).1 hm.pa (by rw [t1, hh.1]) (by rw [t2, hh.2])
      obtain ⟨u, hu, hud, hup⟩ := hda
      have := path_inj hw.paths ht hu (by rw [this, hup])
      subst this
      rw [htd] at hud; cases hud
    refine ⟨s1, fun e he => ?_, fun e m j => ?_⟩
    · rw [s2, h.dirs e he]
      constructor
      · rintro (⟨⟨t, ht, htd, rfl⟩, hne⟩ | rfl)
        · exact ⟨t, mem.2 ⟨t, ht, hb1 t ht, rfl, rfl, .inr (.inr ⟨hne, fun hh => (by rw [htd] at hh; cases hh.1), rfl⟩)⟩, htd, rfl⟩
        · obtain ⟨u, hu, hud, hup⟩ := hda
          exact ⟨{ u with path := s.b }, mem.2 ⟨u, hu, hb1 u hu, rfl, rfl, .inl ⟨hup, rfl⟩⟩, hud, rfl⟩
      · rintro ⟨t, ht, htd, rfl⟩
        obtain ⟨y, hy, h1, h2, h3, hh⟩ := mem.1 ht
        rcases hh with ⟨_, k⟩ | ⟨_, k, _⟩ | ⟨k0, _, k⟩
        · exact .inr k
        · rw [← h2, htd] at k; cases k
        · rw [k]; exact .inl ⟨⟨y, hy, by rw [← h2, htd], rfl⟩, k0⟩
    · rw [s3]
      constructor
      · rintro (⟨hf, hne, _⟩ | ⟨rfl, hf, _⟩)
        · obtain ⟨t, ht, htd, rfl, rfl, rfl⟩ := (h.files e m j).1 hf
          refine ⟨t, mem.2 ⟨t, ht, hb1 t ht, rfl, rfl, .inr (.inr ⟨fun e => noA _ _ _ hf ⟨by rw [e], by rw [e]⟩, fun hh => hne hh.2.1, rfl⟩)⟩, htd, rfl, rfl, rfl⟩
        · obtain ⟨t, ht, htd, t1, rfl, rfl⟩ := (h.files _ m j).1 hf
          have hbt := path_base (hw.file t ht htd).1
          refine ⟨{ t with path := pathOf s.b (baseOf t.path) }, mem.2 ⟨t, ht, hb1 t ht, rfl, rfl, .inr (.inl ⟨fun e => ?_, htd, t1, hda, rfl⟩)⟩, htd, dirOf_path (name_noSl hbn) (name_noSl hbt), baseOf_path (name_noSl hbn) (name_noSl hbt), rfl⟩
          rw [e, ea] at t1
          exact ha0 (by rw [← t1]; rfl)
      · rintro ⟨t, ht, htd, rfl, rfl, rfl⟩
        obtain ⟨y, hy, h1, h2, h3, hh⟩ := mem.1 ht
        rcases hh with ⟨k, _⟩ | ⟨k0, k1, k2, _, k3⟩ | ⟨k0, k1, k2⟩
        · obtain ⟨u, hu, hud, hup⟩ := hda
          have := path_inj hw.paths hy hu (by rw [k, hup])
          subst this
          rw [← h2, htd] at hud; cases hud
        · have hby := path_base (hw.file y hy k1).1
          have e1 : dirOf t.path = s.b := by rw [k3]; exact dirOf_path (name_noSl hbn) (name_noSl hby)
          have e2 : baseOf t.path = baseOf y.path := by rw [k3]; exact baseOf_path (name_noSl hbn) (name_noSl hby)
          have hf : hasFile g s.a (baseOf y.path) y.num := (h.files _ _ _).2 ⟨y, hy, k1, k2, rfl, rfl⟩
          rw [e1, e2, h3]
          refine .inr ⟨rfl, hf, fun hh => ha0 ?_⟩
          rw [hh.1, ea] at hb0
          exact absurd rfl hb0
        · have hyd : y.dir = false := by rw [← h2, htd]
          have hf : hasFile g (dirOf y.path) (baseOf y.path) y.num := (h.files _ _ _).2 ⟨y, hy, hyd, rfl, rfl, rfl⟩
          rw [k2, h3]
          exact .inl ⟨hf, fun e => k1 ⟨hyd, e, ha0⟩, noA _ _ _ hf⟩
  · have hnd : ¬ dirIn l s.a := fun hh => lookDir_not.1 hl ((h.dirs _ ha0).2 hh)
    obtain ⟨x, hx, hxd, hxp, hxn⟩ := (h.fileAt hw hm.pa).1 hi
    obtain ⟨p1, p2, p3⟩ := put_sem h.ok hp
    obtain ⟨s1, s2, s3⟩ := drop_sem p1 hd
    -- nothing lies in it
    have noIn : ∀ t ∈ l, t.dir = false → dirOf t.path ≠ s.a := fun t ht htd e => hnd (e ▸ (hw.file t ht htd).2 (by rw [e]; exact ha0))
    refine ⟨s1, fun e he => ?_, fun e m j => ?_⟩
    · rw [s2, p2, h.dirs e he]
      constructor
      · rintro ⟨hh, hne⟩
        have hde : dirIn l e := by
          rcases hh with hh | rfl
          · exact hh
          · exact parent_dir hw hm.pb hm.parent he
        obtain ⟨t, ht, htd, rfl⟩ := hde
        exact ⟨t, mem.2 ⟨t, ht, fun e => hm.noDir ⟨t, ht, htd, e⟩, rfl, rfl, .inr (.inr ⟨hne, fun hh => (by rw [htd] at hh; cases hh.1), rfl⟩)⟩, htd, rfl⟩
      · rintro ⟨t, ht, htd, rfl⟩
        obtain ⟨y, hy, h1, h2, h3, hh⟩ := mem.1 ht
        rcases hh with ⟨k, _⟩ | ⟨_, k, _⟩ | ⟨k0, _, k⟩
        · exact absurd ⟨y, hy, by rw [← h2, htd], k⟩ hnd
        · rw [← h2, htd] at k; cases k
        · rw [k]; exact ⟨.inl ⟨y, hy, by rw [← h2, htd], rfl⟩, k0⟩
    · rw [s3, p3, h.files]
      constructor
      · rintro ⟨hh, hne, hna⟩
        rcases hh with ⟨rfl, rfl, rfl⟩ | ⟨⟨t, ht, htd, rfl, rfl, rfl⟩, hnb⟩
        · exact ⟨{ x with path := s.b }, mem.2 ⟨x, hx, by rw [hxp]; exact hm.ne, rfl, rfl, .inl ⟨hxp, rfl⟩⟩, hxd, rfl, rfl, hxn⟩
        · exact ⟨t, mem.2 ⟨t, ht, fun e => hnb ⟨by rw [e], by rw [e]⟩, rfl, rfl, .inr (.inr ⟨fun e => hna ⟨by rw [e], by rw [e]⟩, fun hh => noIn t ht htd hh.2.1, rfl⟩)⟩, htd, rfl, rfl, rfl⟩
      · rintro ⟨t, ht, htd, rfl, rfl, rfl⟩
        obtain ⟨y, hy, h1, h2, h3, hh⟩ := mem.1 ht
        have hyd : y.dir = false := by rw [← h2, htd]
        rcases hh with ⟨k, k2⟩ | ⟨_, _, k2, _⟩ | ⟨k0, k1, k2⟩
        · have hyx := path_inj hw.paths hy hx (by rw [k, hxp])
          subst hyx
          rw [k2, h3]
          refine ⟨.inl ⟨rfl, rfl, hxn⟩, fun e => ?_, fun hh => hm.ne (path_ext hm.pb hm.pa hh.1 hh.2).symm⟩
          have := parent_dir hw hm.pb hm.parent (by rw [e]; exact ha0)
          rw [e] at this
          exact hnd this
        · exact absurd k2 (noIn y hy hyd)
        · rw [k2, h3]
          refine ⟨.inr ⟨⟨y, hy, hyd, rfl, rfl, rfl⟩, fun hh => h1 (path_ext (hw.file y hy hyd).1 hm.pb hh.1 hh.2)⟩, noIn y hy hyd, fun hh => k0 (path_ext (hw.file y hy hyd).1 hm.pa hh.1 hh.2)⟩

/-- A NAMES STEP KEEPS A TREE LIKE ITS LIST -/
theorem trel_applied (h : TRel g l) (hw : Wf l n) (hv : Valid l s) (ha : Applied s g g') : TRel g' (applied l s) := by
  have hv0 := hv
  rcases ha with ⟨k, fm, b, rfl⟩ | ⟨k, hp⟩ | ⟨k, hp⟩ | ⟨k, hp⟩
  · rw [applied_new (by omega) (by omega)]
    have hb : born s = [⟨s.a, true, 0⟩] := by unfold born; rw [if_pos k]
    rw [hb]
    rcases hv with ⟨_, h1, h2⟩ | ⟨k', _⟩ | ⟨k', _⟩ | ⟨k', _⟩
    · exact trel_mkdir h h1 h2 fm b
    · omega
    · omega
    · omega
  · rw [applied_new (by omega) (by omega)]
    have hb : born s = [⟨s.a, false, s.num⟩] := by unfold born; rw [if_neg (by omega), if_pos k]
    rw [hb]
    rcases hv with ⟨k', _⟩ | ⟨_, h1, h2, h3, _⟩ | ⟨k', _⟩ | ⟨k', _⟩
    · omega
    · exact trel_create h hw h1 h2 h3 hp
    · omega
    · omega
  · exact trel_move h hw hv0 k hp
  · rcases hv with ⟨k', _⟩ | ⟨k', _⟩ | ⟨k', _⟩ | ⟨_, h1, _⟩
    · omega
    · omega
    · omega
    · exact trel_drop h hw k h1 hp

theorem path_le {p : ByteArray} (hp : isPath p = true) : p.size ≤ 65 := by
  rcases path_cases hp with ⟨_, h1, _, _⟩ | ⟨hs, h1, h2, h3, h4⟩
  · have := name_size h1; omega
  · have e := path_join hp
    have n1 := name_size h1
    have n2 := name_size h2
    rw [← e]
    unfold pathOf
    rw [if_neg (by omega), ByteArray.size_append, ByteArray.size_append, one47]
    omega

theorem fits_of (h : TRel g l) (hw : Wf l n) (hv : Valid l s) (hb : s.b.size < 4294967281) : Fits s g := by
  have hv0 := hv
  rcases hv with ⟨k, h1, h2⟩ | ⟨k, h1, _⟩ | ⟨k, h1, _⟩ | ⟨k, h1, _⟩
  · refine ⟨fun _ => ?_, by have := name_size h1; omega, hb, fun k' => by omega⟩
    rw [lookDir_not]
    intro hh
    obtain ⟨t, ht, _, hp⟩ := (h.dirs _ (name_ne_zero h1)).1 hh
    exact isAt_zero.1 h2 t ht hp
  · exact ⟨fun k' => by omega, by have := path_le h1; omega, hb, fun k' => by omega⟩
  · refine ⟨fun k' => by omega, by have := path_le h1; omega, hb, fun _ => ?_⟩
    have hm := movable hw hv0 k
    refine ⟨fun x hx => ?_, fun hl => ?_⟩
    · rw [lookDir_not]
      exact fun hh => hm.noDir ((h.dirs _ (path_size_pos hm.pb)).1 hh)
    · have : isAt l s.a = 1 := by
        rcases isAt_lt (l := l) s.a with h0 | h0 | h0
        · exact absurd h0 hm.there
        · exact h0
        · exact absurd ((h.dirs _ (path_size_pos hm.pa)).2 ((isAt_two hw).1 h0)) (lookDir_not.1 hl)
      obtain ⟨i, hi⟩ := (isAt_one hw).1 this
      exact ⟨i, (h.fileAt hw hm.pa).2 hi⟩
  · exact ⟨fun k' => by omega, by have := path_le h1; omega, hb, fun k' => by omega⟩

theorem applied_length (l : List Thing) (s : NStep) : (applied l s).length ≤ l.length + 1 := by
  unfold applied
  rw [List.length_append]
  have h1 := List.length_filterMap_le (moved s) l
  have h2 : (born s).length ≤ 1 := by unfold born; split; simp; split <;> simp
  omega

end
end Go.Proofs.YtmmlefbokplnnaaGreatDoor.Disk

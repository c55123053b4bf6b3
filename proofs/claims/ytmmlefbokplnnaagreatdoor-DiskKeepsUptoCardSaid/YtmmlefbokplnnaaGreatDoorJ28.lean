/-
  The texts KSize, KFiles, RUsed, joined. Own text.
-/
import Derived.Test.YtmmlefbokplnnaaGreatDoorJ27
import Derived.Test.YtmmlefbokplnnaaGreatDoorJ26
set_option linter.unusedVariables false
set_option linter.unusedSimpArgs false
namespace Go.Proofs.YtmmlefbokplnnaaGreatDoor.Disk
open Go.RowKit Go Go.Proofs.YtmmlefbokplnnaaGreatDoor.Base Go.Proofs.YtmmlefbokplnnaaGreatDoor.Map

theorem perm_of_nodup {α : Type} : ∀ {a b : List α}, a.Nodup → b.Nodup → (∀ x, x ∈ a ↔ x ∈ b) → a.Perm b
  | [], b, _, _, h => by
    have : b = [] := List.eq_nil_iff_forall_not_mem.2 fun x hx => by have := (h x).2 hx; cases this
    rw [this]
  | x :: r, b, ha, hb, h => by
    obtain ⟨s, t, rfl⟩ := List.append_of_mem ((h x).1 (List.mem_cons_self ..))
    have hb2 : (x :: (s ++ t)).Nodup := (List.perm_middle.nodup_iff).1 hb
    rw [List.nodup_cons] at ha hb2
    refine List.Perm.trans ?_ List.perm_middle.symm
    refine List.Perm.cons x (perm_of_nodup ha.2 hb2.2 fun y => ?_)
    have hy := h y
    constructor
    · intro hh
      have h1 := hy.1 (List.mem_cons_of_mem _ hh)
      rcases List.mem_append.1 h1 with h2 | h2
      · exact List.mem_append_left _ h2
      · rcases List.mem_cons.1 h2 with rfl | h2
        · exact absurd hh ha.1
        · exact List.mem_append_right _ h2
    · intro hh
      have h1 : y ∈ s ++ x :: t := by
        rcases List.mem_append.1 hh with h2 | h2
        · exact List.mem_append_left _ h2
        · exact List.mem_append_right _ (List.mem_cons_of_mem _ h2)
      rcases List.mem_cons.1 (hy.2 h1) with rfl | h2
      · exact absurd hh hb2.1
      · exact h2

theorem nodup_of_map {α β : Type} (f : α → β) : ∀ {l : List α}, (l.map f).Nodup → l.Nodup
  | [], _ => List.nodup_nil
  | x :: r, h => by
    rw [List.map_cons, List.nodup_cons] at h
    rw [List.nodup_cons]
    exact ⟨fun hh => h.1 (List.mem_map.2 ⟨x, hh, rfl⟩), nodup_of_map f h.2⟩

theorem nodup_by {α β : Type} (f : α → β) (key : α → ByteArray) : ∀ {l : List α}, (l.map key).Nodup → (∀ x ∈ l, ∀ y ∈ l, f x = f y → key x = key y) → (l.map f).Nodup
  | [], _, _ => List.nodup_nil
  | x :: r, h, hi => by
    rw [List.map_cons, List.nodup_cons] at h ⊢
    refine ⟨fun hh => ?_, nodup_by f key h.2 fun y hy z hz => hi y (List.mem_cons_of_mem _ hy) z (List.mem_cons_of_mem _ hz)⟩
    obtain ⟨y, hy, e⟩ := List.mem_map.1 hh
    have := hi y (List.mem_cons_of_mem _ hy) x (List.mem_cons_self ..) e
    exact h.1 (List.mem_map.2 ⟨y, hy, this⟩)

theorem nodup_filter_map {α : Type} (key : α → ByteArray) (p : α → Bool) {l : List α} (h : (l.map key).Nodup) : ((l.filter p).map key).Nodup :=
  List.Nodup.sublist (List.Sublist.map _ List.filter_sublist) h

theorem nodup_of_keys {l : List (ByteArray × Nat)} (h : (keys l).Nodup) : l.Nodup := by
  unfold keys at h
  exact nodup_of_map _ h

/-- the files of a directory (the top level: the empty text), as the things have them -/
def filesIn (l : List Thing) (e : ByteArray) : List Thing := l.filter fun t => !t.dir && decide (dirOf t.path = e)
def nameNum (t : Thing) : ByteArray × Nat := (baseOf t.path, t.num)

theorem mem_filesIn {l : List Thing} {e : ByteArray} {t : Thing} : t ∈ filesIn l e ↔ t ∈ l ∧ t.dir = false ∧ dirOf t.path = e := by
  unfold filesIn
  rw [List.mem_filter]
  simp

section
variable {g : TreeG} {l : List Thing} {n : Nat}

theorem files_perm (h : TRel g l) (hw : Wf l n) {e : ByteArray} {x : DirG} (hx : lookDir g e = some x) : x.files.Perm ((filesIn l e).map nameNum) := by
  obtain ⟨hm, hxn⟩ := lookDir_mem hx
  refine perm_of_nodup (nodup_of_keys (h.ok.files x hm)) ?_ fun q => ?_
  · refine nodup_by nameNum (·.path) (nodup_filter_map _ _ hw.paths) fun a ha b hb hab => ?_
    obtain ⟨a1, a2, a3⟩ := mem_filesIn.1 ha
    obtain ⟨b1, b2, b3⟩ := mem_filesIn.1 hb
    unfold nameNum at hab
    rw [Prod.mk.injEq] at hab
    exact path_ext (hw.file a a1 a2).1 (hw.file b b1 b2).1 (a3.trans b3.symm) hab.1
  · obtain ⟨q1, q2⟩ := q
    have e1 : (q1, q2) ∈ x.files ↔ hasFile g e q1 q2 := by
      rw [← lookFile_iff h.ok]
      unfold lookFile
      rw [hx]
      exact (get_some (h.ok.files x hm)).symm
    rw [e1, h.files, List.mem_map]
    constructor
    · rintro ⟨t, h1, h2, h3, h4, h5⟩
      exact ⟨t, mem_filesIn.2 ⟨h1, h2, h3⟩, by unfold nameNum; rw [h4, h5]⟩
    · rintro ⟨t, ht, hq⟩
      obtain ⟨h1, h2, h3⟩ := mem_filesIn.1 ht
      unfold nameNum at hq
      rw [Prod.mk.injEq] at hq
      exact ⟨t, h1, h2, h3, hq.1, hq.2⟩

theorem files_none (h : TRel g l) {e : ByteArray} (hx : lookDir g e = none) : filesIn l e = [] := by
  refine List.eq_nil_iff_forall_not_mem.2 fun t ht => ?_
  obtain ⟨h1, h2, h3⟩ := mem_filesIn.1 ht
  obtain ⟨x, hx1, hx2, _⟩ := (h.files e (baseOf t.path) t.num).2 ⟨t, h1, h2, h3, rfl, rfl⟩
  exact lookDir_not.1 hx ⟨x, hx1, hx2⟩

theorem files_length (h : TRel g l) (hw : Wf l n) {e : ByteArray} {x : DirG} (hx : lookDir g e = some x) : x.files.length ≤ l.length := by
  rw [(files_perm h hw hx).length_eq, List.length_map]
  exact List.length_filter_le _ _

/-- the directories, as the things have them -/
def dirsIn (l : List Thing) : List Thing := l.filter fun t => t.dir

theorem dirs_perm (h : TRel g l) (hw : Wf l n) : ((g.ds.filter fun y => decide (y.name.size ≠ 0)).map (·.name)).Perm ((dirsIn l).map (·.path)) := by
  refine perm_of_nodup (nodup_filter_map _ _ h.ok.dirs) (nodup_filter_map _ _ hw.paths) fun e => ?_
  rw [List.mem_map, List.mem_map]
  constructor
  · rintro ⟨y, hy, rfl⟩
    rw [List.mem_filter, decide_eq_true_eq] at hy
    obtain ⟨t, h1, h2, h3⟩ := (h.dirs y.name hy.2).1 ⟨y, hy.1, rfl⟩
    exact ⟨t, List.mem_filter.2 ⟨h1, h2⟩, h3⟩
  · rintro ⟨t, ht, rfl⟩
    obtain ⟨h1, h2⟩ := List.mem_filter.1 ht
    have hne := name_ne_zero (hw.dir t h1 h2)
    obtain ⟨y, hy, hyn⟩ := (h.dirs t.path hne).2 ⟨t, h1, h2, rfl⟩
    exact ⟨y, List.mem_filter.2 ⟨hy, by rw [decide_eq_true_eq, hyn]; exact hne⟩, hyn⟩

theorem ds_length (h : TRel g l) (hw : Wf l n) : g.ds.length ≤ l.length + 1 := by
  have h1 := (dirs_perm h hw).length_eq
  rw [List.length_map, List.length_map] at h1
  have h2 : (dirsIn l).length ≤ l.length := List.length_filter_le _ _
  have h3 : ∀ (ds : List DirG), (ds.map (·.name)).Nodup → ds.length ≤ (ds.filter fun y => decide (y.name.size ≠ 0)).length + 1 := by
    intro ds
    induction ds with
    | nil => intro _; simp
    | cons y r ih =>
      intro hn
      rw [List.map_cons, List.nodup_cons] at hn
      by_cases hy : y.name.size = 0
      · have hz : r.filter (fun y => decide (y.name.size ≠ 0)) = r := by
          rw [List.filter_eq_self]
          intro z hz
          rw [decide_eq_true_eq]
          intro hz0
          exact hn.1 (List.mem_map.2 ⟨z, hz, by rw [size_zero hy, size_zero hz0]⟩)
        rw [List.filter_cons_of_neg (by rw [decide_eq_true_eq]; exact fun hh => hh hy), hz]
        simp
      · rw [List.filter_cons_of_pos (by rw [decide_eq_true_eq]; exact hy)]
        have := ih hn.2
        simp only [List.length_cons]
        omega
  have := h3 g.ds h.ok.dirs
  omega

end

theorem usedBy_perm (fs : List FB) {a b : List Thing} (h : a.Perm b) : usedBy fs a = usedBy fs b := by
  induction h with
  | nil => rfl
  | cons x _ ih => rw [usedBy_cons, usedBy_cons, ih]
  | swap x y l => rw [usedBy_cons, usedBy_cons, usedBy_cons, usedBy_cons]; omega
  | trans _ _ h1 h2 => rw [h1, h2]

theorem moved_num {s : NStep} {x y : Thing} (h : moved s x = some y) : y.dir = x.dir ∧ y.num = x.num := by
  unfold moved at h
  by_cases h1 : s.kind = 4
  · rw [if_pos h1] at h
    split at h
    · cases h
    · injection h with h; subst h; exact ⟨rfl, rfl⟩
  · rw [if_neg h1] at h
    by_cases h2 : s.kind = 3
    · rw [if_pos h2] at h
      split at h
      · cases h
      · split at h
        · injection h with h; subst h; exact ⟨rfl, rfl⟩
        · split at h <;> (injection h with h; subst h; exact ⟨rfl, rfl⟩)
    · rw [if_neg h2] at h
      injection h with h; subst h; exact ⟨rfl, rfl⟩

theorem usedBy_moved (fs : List FB) (s : NStep) : ∀ l : List Thing, usedBy fs (l.filterMap (moved s)) + usedBy fs (l.filter fun x => (moved s x).isNone) = usedBy fs l
  | [] => rfl
  | x :: l => by
    have ih := usedBy_moved fs s l
    cases hm : moved s x with
    | none =>
      rw [List.filterMap_cons_none hm, List.filter_cons_of_pos (by rw [hm]; rfl), usedBy_cons, usedBy_cons]
      omega
    | some y =>
      obtain ⟨e1, e2⟩ := moved_num hm
      rw [List.filterMap_cons_some hm, List.filter_cons_of_neg (by rw [hm]; simp), usedBy_cons, usedBy_cons, e1, e2]
      omega

theorem perm_single {α : Type} {l : List α} {x : α} (hn : l.Nodup) (h : ∀ y, y ∈ l ↔ y = x) : l.Perm [x] :=
  perm_of_nodup hn (by simp) fun y => by rw [h y]; simp

theorem nodup_things {l : List Thing} (h : (l.map (·.path)).Nodup) : l.Nodup := nodup_of_map _ h

theorem sum_perm {a b : List Nat} (h : a.Perm b) : a.sum = b.sum := by
  induction h with
  | nil => rfl
  | cons x _ ih => simp [ih]
  | swap x y l => simp; omega
  | trans _ _ h1 h2 => rw [h1, h2]

section
variable {G G' : DiskG} {m : M} {S : Nat}

theorem Rel.lens (h : Rel G m S) {e : ByteArray} {x : DirG} (hx : lookDir G.gc e = some x) : lensOf G x.files = usedBy m.files (filesIn m.things e) := by
  have hp := files_perm h.cur h.wfc hx
  unfold lensOf
  rw [sum_perm (hp.map fun q => (pfAt G q.2).bytes.length), List.map_map]
  unfold usedBy
  congr 1
  apply List.map_congr_left
  intro t ht
  obtain ⟨h1, h2, _⟩ := mem_filesIn.1 ht
  have := h.nowl (h.wfc.lt t h1 h2)
  simp only [Function.comp, nameNum, h2]
  rw [lenAt_eq, this]
  rfl

theorem usedBy_sub (fs : List FB) (p : Thing → Bool) : ∀ l : List Thing, usedBy fs (l.filter p) ≤ usedBy fs l
  | [] => Nat.le_refl _
  | x :: l => by
    have ih := usedBy_sub fs p l
    by_cases hp : p x = true
    · rw [List.filter_cons_of_pos hp, usedBy_cons, usedBy_cons]; omega
    · rw [List.filter_cons_of_neg hp, usedBy_cons]; omega

theorem Rel.one (h : Rel G m S) {p : ByteArray} {i : Nat} (hf : fileIn m.things p i) : ∃ x, x ∈ m.things ∧ x.dir = false ∧ x.path = p ∧ x.num = i ∧ usedBy m.files [x] = (pfAt G i).bytes.length := by
  obtain ⟨x, h1, h2, h3, h4⟩ := hf
  refine ⟨x, h1, h2, h3, h4, ?_⟩
  rw [usedBy_cons, h2, lenAt_eq, h4, h.nowl (by rw [← h4]; exact h.wfc.lt x h1 h2)]
  simp [usedBy]

theorem Rel.sizeFile (h : Rel G m S) {p : ByteArray} (hp : isPath p = true) (h1 : isAt m.things p = 1) : ∃ x, x ∈ m.things ∧ x.dir = false ∧ x.path = p ∧ usedBy m.files [x] = sizeG G p := by
  obtain ⟨i, hi⟩ := (isAt_one h.wfc).1 h1
  have hfo := (h.cur.fileAt h.wfc hp).2 hi
  obtain ⟨x, e1, e2, e3, e4, e5⟩ := h.one hi
  refine ⟨x, e1, e2, e3, ?_⟩
  unfold sizeG
  rw [hfo]
  exact e5

theorem Rel.fileNot (h : Rel G m S) {p : ByteArray} (hp : isPath p = true) (h1 : isAt m.things p ≠ 1) : fileOf G.gc p = none := by
  cases hf : fileOf G.gc p with
  | none => rfl
  | some i => exact absurd ((isAt_one h.wfc).2 ⟨i, (h.cur.fileAt h.wfc hp).1 hf⟩) h1

/-- what stands at a path that a file may be moved to -/
theorem Rel.sizeTo (h : Rel G m S) {p : ByteArray} (hp : isPath p = true) (h2 : isAt m.things p ≠ 2) : sizeG G p = usedBy m.files (m.things.filter fun x => decide (x.path = p)) := by
  by_cases h1 : isAt m.things p = 1
  · obtain ⟨x, e1, e2, e3, e4⟩ := h.sizeFile hp h1
    rw [← e4]
    refine (usedBy_perm _ (perm_single ((nodup_things h.wfc.paths).filter _) fun y => ?_)).symm
    rw [List.mem_filter, decide_eq_true_eq]
    constructor
    · rintro ⟨y1, y2⟩; exact path_inj h.wfc.paths y1 e1 (by rw [y2, e3])
    · rintro rfl; exact ⟨e1, e3⟩
  · have e0 : isAt m.things p = 0 := by rcases isAt_lt (l := m.things) p with h3 | h3 | h3 <;> omega
    have hn : m.things.filter (fun x => decide (x.path = p)) = [] := by
      rw [List.filter_eq_nil_iff]
      intro x hx
      rw [decide_eq_true_eq]
      exact isAt_zero.1 e0 x hx
    have hl : lookDir G.gc p = none := by
      rw [lookDir_not]
      intro hh
      exact h2 ((isAt_two h.wfc).2 ((h.cur.dirs p (path_size_pos hp)).1 hh))
    rw [hn]
    unfold sizeG
    rw [h.fileNot hp h1, hl]
    rfl

/-- what goes with a path -/
theorem Rel.sizeOf (h : Rel G m S) {p : ByteArray} (hp : isPath p = true) : sizeG G p = usedBy m.files (m.things.filter fun x => decide (x.path = p) || inside x.path p) := by
  by_cases h2 : isAt m.things p = 2
  · obtain ⟨d, d1, d2, d3⟩ := (isAt_two h.wfc).1 h2
    have hpn : isName p = true := by rw [← d3]; exact h.wfc.dir d d1 d2
    have hfn := h.fileNot hp (by omega)
    obtain ⟨x, hx⟩ : ∃ x, lookDir G.gc p = some x := Option.isSome_iff_exists.1 (lookDir_has.2 ((h.cur.dirs p (path_size_pos hp)).2 ⟨d, d1, d2, d3⟩))
    have e1 : sizeG G p = usedBy m.files (d :: filesIn m.things p) := by
      unfold sizeG
      rw [hfn, hx]
      simp only
      rw [h.lens hx, usedBy_cons, d2]
      simp
    rw [e1]
    have hdn : d ∉ filesIn m.things p := fun hh => by
      have := (mem_filesIn.1 hh).2.1
      rw [d2] at this; cases this
    refine usedBy_perm _ (perm_of_nodup (List.nodup_cons.2 ⟨hdn, (nodup_things h.wfc.paths).filter _⟩) ((nodup_things h.wfc.paths).filter _) fun t => ?_)
    rw [List.mem_cons, mem_filesIn, List.mem_filter, Bool.or_eq_true, decide_eq_true_eq]
    constructor
    · rintro (rfl | ⟨h3, h4, h5⟩)
      · exact ⟨d1, .inl d3⟩
      · exact ⟨h3, .inr ((inside_iff (h.wfc.file t h3 h4).1).2 ⟨h5.symm, path_size_pos hp⟩)⟩
    · rintro ⟨h3, h4 | h4⟩
      · exact .inl (path_inj h.wfc.paths h3 d1 (by rw [h4, d3]))
      · obtain ⟨h5, h6, _⟩ := inside_dir h.wfc h3 h4
        exact .inr ⟨h3, h5, h6.symm⟩
  · rw [h.sizeTo hp h2]
    congr 1
    apply List.filter_congr
    intro x hx
    have : inside x.path p = false := by
      cases hi : inside x.path p
      · rfl
      · obtain ⟨_, _, _, h4⟩ := inside_dir h.wfc hx hi
        exact absurd ((isAt_two h.wfc).2 h4) h2
    rw [this, Bool.or_false]

theorem Rel.sizeLe (h : Rel G m S) {p : ByteArray} (hp : isPath p = true) : sizeG G p ≤ G.used := by
  rw [h.sizeOf hp, h.used]
  exact usedBy_sub _ _ _

theorem Rel.lensLe (h : Rel G m S) {e : ByteArray} {x : DirG} (hx : lookDir G.gc e = some x) : lensOf G x.files ≤ S * S := by
  rw [h.lens hx]
  exact Nat.le_trans (usedBy_sub _ _ _) h.usedl

theorem Rel.fileLe (h : Rel G m S) {p : ByteArray} {i : Nat} (hp : isPath p = true) (hf : fileOf G.gc p = some i) : (pfAt G i).bytes.length ≤ G.used := by
  have := h.sizeLe hp
  unfold sizeG at this
  rw [hf] at this
  exact this

theorem Rel.removed {p : ByteArray} (h : Rel G m S) {G' : DiskG} (hd : Stepped G ⟨4, p, ByteArray.empty, 0⟩ (sizeG G p) (Disk.removeCode G p) G') : Rel G' (m.remove p).2 (S + 1) := by
  have hcode := h.removeCode p
  rcases remove_cases m p with hf | ⟨ho, hn, hx, he⟩
  · rcases hd with ⟨_, hr⟩ | ⟨h0, _⟩
    · rw [hcode] at hr
      exact (h.fail hr hf).mono (Nat.le_succ S)
    · rw [hcode] at h0; exact absurd h0 hf.1
  · rw [he] at hcode ⊢
    rcases hd with ⟨h0, _⟩ | ⟨_, v, bs, e1, e2, e3, e4, e5, e6, e7, e8, e9, e10, e11⟩
    · exact absurd hcode h0
    · refine h.stepped ho (.inr (.inr (.inr ⟨rfl, hn, hx⟩))) (fun hh => by cases hh) (by show ByteArray.empty.size < _; decide) e1 (by unfold DiskG.nsteps; rw [e2]; simp) e3 e5 e8 ?_ e10 e11
      have hm := usedBy_moved m.files ⟨4, p, ByteArray.empty, 0⟩ m.things
      have ha : applied m.things ⟨4, p, ByteArray.empty, 0⟩ = m.things.filterMap (moved ⟨4, p, ByteArray.empty, 0⟩) := by unfold applied born; simp
      have hfil : m.things.filter (fun x => (moved ⟨4, p, ByteArray.empty, 0⟩ x).isNone) = m.things.filter fun x => decide (x.path = p) || inside x.path p := by
        apply List.filter_congr
        intro x _
        unfold moved
        simp only [if_true]
        by_cases hc : x.path = p ∨ inside x.path p = true
        · rw [if_pos hc]
          rcases hc with hc | hc <;> simp [hc]
        · rw [if_neg hc]
          have h1 : ¬ x.path = p := fun hh => hc (.inl hh)
          have h2 : inside x.path p = false := by cases hi : inside x.path p; rfl; exact absurd (.inr hi) hc
          simp [h1, h2]
      rw [hfil, ← h.sizeOf hn] at hm
      rw [e9, h.used, ha]
      omega

theorem Rel.renamed {a b : ByteArray} (h : Rel G m S) (hb : b.size < 4294967281) {G' : DiskG} (hd : Stepped G ⟨3, a, b, 0⟩ (sizeG G b) (Disk.renameCode G a b) G') : Rel G' (m.rename a b).2 (S + 1) := by
  have hcode := h.renameCode a b
  rcases rename_cases m a b with hf | ⟨ho, hv, he⟩
  · rcases hd with ⟨_, hr⟩ | ⟨h0, _⟩
    · rw [hcode] at hr
      exact (h.fail hr hf).mono (Nat.le_succ S)
    · rw [hcode] at h0; exact absurd h0 hf.1
  · rw [he] at hcode ⊢
    rcases hd with ⟨h0, _⟩ | ⟨_, v, bs, e1, e2, e3, e4, e5, e6, e7, e8, e9, e10, e11⟩
    · exact absurd hcode h0
    · refine h.stepped ho hv (fun hh => by cases hh) hb e1 (by unfold DiskG.nsteps; rw [e2]; simp) e3 e5 e8 ?_ e10 e11
      have hmv := movable h.wfc hv rfl
      have hm := usedBy_moved m.files ⟨3, a, b, 0⟩ m.things
      have ha : applied m.things ⟨3, a, b, 0⟩ = m.things.filterMap (moved ⟨3, a, b, 0⟩) := by unfold applied born; simp
      have hfil : m.things.filter (fun x => (moved ⟨3, a, b, 0⟩ x).isNone) = m.things.filter fun x => decide (x.path = b) := by
        apply List.filter_congr
        intro x _
        unfold moved
        by_cases hc : x.path = b
        · simp [hc]
        · simp [hc]
          split
          · rfl
          · split <;> rfl
      have hb2 : isAt m.things b ≠ 2 := fun hh => hmv.noDir ((isAt_two h.wfc).1 hh)
      have hs := h.sizeTo hmv.pb hb2
      simp only at hs
      rw [hfil, ← hs] at hm
      rw [e9, h.used, ha]
      omega

end
end Go.Proofs.YtmmlefbokplnnaaGreatDoor.Disk

namespace Go.Proofs.YtmmlefbokplnnaaGreatDoor.Disk
open Go.RowKit Go Go.Proofs.YtmmlefbokplnnaaGreatDoor.Base Go.Proofs.YtmmlefbokplnnaaGreatDoor.Map

theorem lenAt_set {fs : List FB} {i : Nat} (hi : i < fs.length) (f : FB) (k : Nat) : lenAt (fs.set i f) k = if k = i then f.now.length else lenAt fs k := by
  unfold lenAt
  by_cases h : k = i
  · subst h
    rw [List.getElem?_set_self hi, if_pos rfl]
  · rw [List.getElem?_set_ne (fun e => h e.symm), if_neg h]

theorem usedBy_far {fs : List FB} {i : Nat} (hi : i < fs.length) (f : FB) : ∀ l : List Thing, (∀ t ∈ l, t.dir = false → t.num ≠ i) → usedBy (fs.set i f) l = usedBy fs l
  | [], _ => rfl
  | x :: l, h => by
    rw [usedBy_cons, usedBy_cons, usedBy_far hi f l fun t ht => h t (List.mem_cons_of_mem _ ht)]
    cases hd : x.dir
    · rw [lenAt_set hi, if_neg (h x (List.mem_cons_self ..) hd)]
    · rfl

theorem usedBy_set {fs : List FB} {l : List Thing} {n : Nat} (hw : Wf l n) {p : ByteArray} {i : Nat} (hf : fileIn l p i) (hi : i < fs.length) (f : FB) : usedBy (fs.set i f) l + lenAt fs i = usedBy fs l + f.now.length := by
  obtain ⟨x, h1, h2, h3, h4⟩ := hf
  obtain ⟨s, t, rfl⟩ := List.append_of_mem h1
  have hnd := hw.paths
  rw [List.map_append, List.map_cons] at hnd
  have far : ∀ y, y ∈ s ∨ y ∈ t → y.dir = false → y.num ≠ i := fun y hy hd he => by
    have hmem : y ∈ s ++ x :: t := by
      rcases hy with hy | hy
      · exact List.mem_append_left _ hy
      · exact List.mem_append_right _ (List.mem_cons_of_mem _ hy)
    have hp := hw.nums y hmem x h1 hd h2 (by rw [he, h4])
    have hnd2 := (List.perm_middle.nodup_iff).1 hnd
    rw [List.nodup_cons] at hnd2
    refine hnd2.1 ?_
    rw [← hp]
    rcases hy with hy | hy
    · exact List.mem_append_left _ (List.mem_map.2 ⟨y, hy, rfl⟩)
    · exact List.mem_append_right _ (List.mem_map.2 ⟨y, hy, rfl⟩)
  rw [usedBy_append, usedBy_append, usedBy_cons, usedBy_cons, usedBy_far hi f s (fun y hy => far y (.inl hy)), usedBy_far hi f t (fun y hy => far y (.inr hy)), h2, h4, lenAt_set hi, if_pos rfl]
  simp
  omega

section
variable {G G' : DiskG} {m : M} {S : Nat}

/-- one file is another -/
theorem Rel.filed {S' : Nat} (h : Rel G m S) (hS : S ≤ S') {p : ByteArray} {i : Nat} (hfi : fileIn m.things p i) (hi : i < m.files.length) {p' : PF} {f' : FB} {a' c' : Nat} (hf : FRel p' f') (hg : p'.Good S' ∧ unitsOf p'.steps ≤ S' ∧ p'.steps.length ≤ S') (hd : f'.steps.length ≤ S' ∧ f'.safe.length ≤ S' ∧ CutsOk f'.steps f'.safe)
    (h1 : G'.gc = G.gc) (h2 : G'.nsteps = G.nsteps) (h3 : G'.gd = G.gd) (h4 : G'.pfs = G.pfs.set i p') (h5 : G'.cap = G.cap) (h6 : G'.used + (pfAt G i).bytes.length = G.used + p'.bytes.length) (h7 : G'.off = G.off) (h8 : G'.crash = c') (hc : m.off = false → c' = a') (hc1 : a' < 9223372036854775808) (hc2 : c' < 9223372036854775808) :
    Rel G' { m with await := a', files := m.files.set i f' } S' := by
  have hm := h.mono hS
  have hip : i < G.pfs.length := by rw [h.len]; exact hi
  have atP : ∀ k, k < m.files.length → pfAt G' k = if k = i then p' else pfAt G k := fun k _ => by
    unfold pfAt
    rw [h4, List.getD_eq_getElem?_getD, List.getD_eq_getElem?_getD]
    by_cases hk : k = i
    · subst hk; rw [List.getElem?_set_self hip, if_pos rfl]; rfl
    · rw [List.getElem?_set_ne (fun e => hk e.symm), if_neg hk]
  have atF : ∀ k, M.fileAt { m with await := a', files := m.files.set i f' } k = if k = i then f' else m.fileAt k := fun k => by
    unfold M.fileAt
    simp only [List.getD_eq_getElem?_getD]
    by_cases hk : k = i
    · subst hk; rw [List.getElem?_set_self hi, if_pos rfl]; rfl
    · rw [List.getElem?_set_ne (fun e => hk e.symm), if_neg hk]
  have hl : (m.files.set i f').length = m.files.length := List.length_set
  refine ⟨by rw [h1]; exact h.cur, by rw [h3]; exact h.dur, ?_, ?_, by rw [h2]; exact h.steps, ?_, ?_, fun k hk => ?_, fun k hk => ?_, fun k hk => ?_, by rw [h5]; exact h.cap, h.capl, by rw [h7]; exact h.off, fun ho => ?_, hc1, by rw [h8]; exact hc2, ?_, hm.nt, hm.nd, hm.ns, ?_⟩
  · show Wf m.things (m.files.set i f').length
    rw [hl]; exact h.wfc
  · show Wf m.safe (m.files.set i f').length
    rw [hl]; exact h.wfd
  · show Chain (m.files.set i f').length _ _ _
    rw [hl]; exact h.chain
  · show G'.pfs.length = (m.files.set i f').length
    rw [hl, h4, List.length_set]; exact h.len
  · have hk' : k < m.files.length := by rw [← hl]; exact hk
    rw [atP k hk', atF k]
    by_cases hki : k = i
    · rw [if_pos hki, if_pos hki]; exact hf
    · rw [if_neg hki, if_neg hki]; exact h.files k hk'
  · have hk' : k < m.files.length := by rw [← hl]; exact hk
    rw [atP k hk']
    by_cases hki : k = i
    · rw [if_pos hki]; exact hg
    · rw [if_neg hki]; exact hm.good k hk'
  · have hk' : k < m.files.length := by rw [← hl]; exact hk
    rw [atF k]
    by_cases hki : k = i
    · rw [if_pos hki]; exact hd
    · rw [if_neg hki]; exact hm.docs k hk'
  · show G'.crash = a'
    rw [h8]; exact hc ho
  · show G'.used = usedBy (m.files.set i f') m.things
    have e := usedBy_set h.wfc hfi hi f'
    rw [lenAt_eq, h.nowl hi, ← h.used, ← hf.now] at e
    omega
  · show (m.files.set i f').length ≤ _
    rw [hl]; exact hm.nf

theorem file_set (m : M) (i : Nat) (f : FB) (ha : m.await ≠ 1) : m.ticked.setFile i f = { m with await := m.await - 1, files := m.files.set i f } := by
  rw [ticked_eq ha]; rfl

theorem file_fails (m : M) (p : ByteArray) (hz : (m.file p).2 ≠ 0) : Fails m ((m.file p).2, m) := by
  refine fails_plain m _ hz fun h1 => ?_
  unfold M.file at h1
  cases ho : m.off
  · rw [ho, if_neg (by decide)] at h1
    split at h1
    · cases h1
    · split at h1
      · cases h1
      · split at h1 <;> cases h1
  · rfl

theorem append_cases (m : M) (p : ByteArray) (t : List Nat) : Fails m (m.append p t) ∨ ((m.file p).2 = 0 ∧ m.await ≠ 1 ∧ m.append p t = (0, { m with await := m.await - 1, files := m.files.set (m.file p).1 ⟨(m.fileAt (m.file p).1).now ++ t, (m.fileAt (m.file p).1).safe, (m.fileAt (m.file p).1).steps ++ [⟨t, false, 0⟩]⟩ })) := by
  unfold M.append
  by_cases hz : (m.file p).2 = 0
  · rw [if_neg (by rw [hz]; decide)]
    split
    · exact .inl (fails_plain m 7 (by decide) (fun hh => (by cases hh)))
    · by_cases ha : m.await = 1
      · rw [if_pos ha]; exact .inl (fails_tick m (Rel.notOff hz) ha)
      · rw [if_neg ha, file_set m _ _ ha]; exact .inr ⟨hz, ha, rfl⟩
  · rw [if_pos hz]; exact .inl (file_fails m p hz)

theorem cut_cases (m : M) (p : ByteArray) (n : Int) : Fails m (m.cut p n) ∨ ((m.file p).2 = 0 ∧ m.await ≠ 1 ∧ 0 ≤ n ∧ n ≤ ((m.fileAt (m.file p).1).now.length : Int) ∧ m.cut p n = (0, { m with await := m.await - 1, files := m.files.set (m.file p).1 ⟨(m.fileAt (m.file p).1).now.take n.toNat, (m.fileAt (m.file p).1).safe, (m.fileAt (m.file p).1).steps ++ [⟨[], true, n.toNat⟩]⟩ })) := by
  unfold M.cut
  by_cases hz : (m.file p).2 = 0
  · rw [if_neg (by rw [hz]; decide)]
    by_cases hr : n < 0 ∨ ((m.fileAt (m.file p).1).now.length : Int) < n
    · rw [if_pos hr]; exact .inl (fails_plain m 6 (by decide) (fun hh => (by cases hh)))
    · rw [if_neg hr]
      by_cases ha : m.await = 1
      · rw [if_pos ha]; exact .inl (fails_tick m (Rel.notOff hz) ha)
      · rw [if_neg ha, file_set m _ _ ha]; exact .inr ⟨hz, ha, by omega, by omega, rfl⟩
  · rw [if_pos hz]; exact .inl (file_fails m p hz)

theorem sync_cases (m : M) (p : ByteArray) : Fails m (m.sync p) ∨ ((m.file p).2 = 0 ∧ m.await ≠ 1 ∧ m.sync p = (0, { m with await := m.await - 1, files := m.files.set (m.file p).1 ⟨(m.fileAt (m.file p).1).now, (m.fileAt (m.file p).1).now, []⟩ })) := by
  unfold M.sync
  by_cases hz : (m.file p).2 = 0
  · rw [if_neg (by rw [hz]; decide)]
    by_cases ha : m.await = 1
    · rw [if_pos ha]; exact .inl (fails_tick m (Rel.notOff hz) ha)
    · rw [if_neg ha, file_set m _ _ ha]; exact .inr ⟨hz, ha, rfl⟩
  · rw [if_pos hz]; exact .inl (file_fails m p hz)

theorem Rel.appended {p : ByteArray} {t : List Nat} (h : Rel G m S) (h8 : ∀ x ∈ t, x < 256) {G' : DiskG} (hd : Appended G p t (Disk.appendCode G p t.length) G') : Rel G' (m.append p t).2 (S + 1 + t.length) := by
  have hcode := h.appendCode p t
  rcases append_cases m p t with hf | ⟨hz, ha, he⟩
  · rcases hd with ⟨_, hr⟩ | ⟨h0, _⟩
    · rw [hcode] at hr
      exact (h.fail hr hf).mono (by omega)
    · rw [hcode] at h0; exact absurd h0 hf.1
  · rw [he] at hcode ⊢
    rcases hd with ⟨h0, _⟩ | ⟨_, i, bv, sv, hfo, rfl⟩
    · exact absurd hcode h0
    · obtain ⟨_, h2⟩ := h.openCode p
      obtain ⟨h3, h4⟩ := h2 hz
      rw [h3] at hfo
      injection hfo with hfo
      have hi := h.fileLt hz
      have hc := h.crash (Rel.notOff hz)
      rw [hfo] at h4 hi ⊢
      have hfr := (h.files i hi).add t
      obtain ⟨g1, g2, g3⟩ := (h.mono (show S ≤ S + 1 + t.length by omega)).good i hi
      obtain ⟨g1', g2', g3'⟩ := h.good i hi
      obtain ⟨d1, d2, d3⟩ := h.docs i hi
      have hu := hfr.units
      simp only [changeUnits_append] at hu
      rw [← (h.files i hi).units] at hu
      have hu1 : changeUnits [(⟨t, false, 0⟩ : Change)] = t.length := by simp [changeUnits, Change.units]
      rw [hu1] at hu
      have hsl : ((pfAt G i).add t).steps.length ≤ (pfAt G i).steps.length + 1 := by
        unfold PF.add
        simp only
        split
        · rename_i k r hr
          have := congrArg List.length hr
          simp at this
          simp
          omega
        · simp
      have hbl := g1'.len
      refine h.filed (by omega) h4 hi hfr ⟨PF.Good.add g1 t (by omega) h8, by omega, by omega⟩ ⟨by simp; omega, by simp only; omega, cutsOk_snoc d3 (fun hh => by cases hh)⟩ rfl rfl rfl rfl rfl ?_ rfl rfl (fun _ => ?_) (by have := h.await; omega) (by have := h.crashl; show G.crash - 1 < _; omega)
      · show G.used + t.length + _ = G.used + ((pfAt G i).bytes ++ t).length
        rw [List.length_append]; omega
      · show G.crash - 1 = m.await - 1
        rw [hc]

theorem Rel.cutDone {p : ByteArray} {n : Int} (h : Rel G m S) {G' : DiskG} (hd : CutDone G p n (Disk.cutCode G p n) G') : Rel G' (m.cut p n).2 (S + 1) := by
  have hcode := h.cutCode p n
  rcases cut_cases m p n with hf | ⟨hz, ha, hn0, hn1, he⟩
  · rcases hd with ⟨_, hr⟩ | ⟨h0, _⟩
    · rw [hcode] at hr
      exact (h.fail hr hf).mono (by omega)
    · rw [hcode] at h0; exact absurd h0 hf.1
  · rw [he] at hcode ⊢
    rcases hd with ⟨h0, _⟩ | ⟨_, i, bv, sv, hfo, rfl⟩
    · exact absurd hcode h0
    · obtain ⟨_, h2⟩ := h.openCode p
      obtain ⟨h3, h4⟩ := h2 hz
      have hle := h.fileLe (by
        have hz' := hz
        unfold M.file at hz'
        cases hp : isPath p
        · rw [Rel.notOff hz, hp] at hz'; cases hz'
        · rfl) hfo
      rw [h3] at hfo
      injection hfo with hfo
      have hi := h.fileLt hz
      have hc := h.crash (Rel.notOff hz)
      rw [hfo] at h4 hi hn1 ⊢
      have hfr := (h.files i hi).cutTo n.toNat
      obtain ⟨g1, g2, g3⟩ := (h.mono (show S ≤ S + 1 by omega)).good i hi
      obtain ⟨g1', g2', g3'⟩ := h.good i hi
      obtain ⟨d1, d2, d3⟩ := h.docs i hi
      have hb := h.nowl hi
      rw [hb] at hn1
      refine h.filed (by omega) h4 hi hfr ⟨PF.Good.cutTo g1 n.toNat, ?_, ?_⟩ ⟨by simp; omega, by simp only; omega, cutsOk_snoc d3 (fun _ => by rw [(h.files i hi).played, hb]; show n.toNat ≤ _; omega)⟩ rfl rfl rfl rfl rfl ?_ rfl rfl (fun _ => ?_) (by have := h.await; omega) (by have := h.crashl; show G.crash - 1 < _; omega)
      · unfold PF.cutTo
        simp only
        rw [unitsOf_append]
        have : unitsOf [PStep.cut ((pfAt G i).bytes.drop n.toNat)] = 1 := by simp [unitsOf, PStep.units]
        omega
      · unfold PF.cutTo
        simp
        omega
      · show G.used - ((pfAt G i).bytes.length - n.toNat) + (pfAt G i).bytes.length = G.used + ((pfAt G i).bytes.take n.toNat).length
        rw [List.length_take]
        omega
      · show G.crash - 1 = m.await - 1
        rw [hc]

theorem Rel.synced {p : ByteArray} (h : Rel G m S) {G' : DiskG} (hd : Synced G p (Disk.syncCode G p) G') : Rel G' (m.sync p).2 S := by
  have hcode := h.syncCode p
  rcases sync_cases m p with hf | ⟨hz, ha, he⟩
  · rcases hd with ⟨_, hr⟩ | ⟨h0, _⟩
    · rw [hcode] at hr
      exact h.fail hr hf
    · rw [hcode] at h0; exact absurd h0 hf.1
  · rw [he] at hcode ⊢
    rcases hd with ⟨h0, _⟩ | ⟨_, i, hfo, rfl⟩
    · exact absurd hcode h0
    · obtain ⟨_, h2⟩ := h.openCode p
      obtain ⟨h3, h4⟩ := h2 hz
      rw [h3] at hfo
      injection hfo with hfo
      have hi := h.fileLt hz
      have hc := h.crash (Rel.notOff hz)
      rw [hfo] at h4 hi ⊢
      obtain ⟨g1, g2, g3⟩ := h.good i hi
      have hb := h.nowl hi
      have hbl := g1.len
      rw [hb]
      refine h.filed (Nat.le_refl _) h4 hi (FRel.fresh _) ⟨PF.Good.fresh g1.ok, by simp [unitsOf], by simp⟩ ⟨by simp, hbl, trivial⟩ rfl rfl rfl rfl rfl rfl rfl rfl (fun _ => ?_) (by have := h.await; omega) (by have := h.crashl; show G.crash - 1 < _; omega)
      show G.crash - 1 = m.await - 1
      rw [hc]

theorem Rel.flipped {p : ByteArray} {a : Int} {k : Nat} (hk : k < 256) (h : Rel G m S) {G' : DiskG} (hd : FlipDone G p a k (Disk.flipCode G p a) G') : Rel G' (m.flip p a k).2 S := by
  have hcode := h.flipCode p a k
  by_cases hz : (m.file p).2 = 0
  · by_cases hr : a < 0 ∨ ((m.fileAt (m.file p).1).now.length : Int) ≤ a
    · have e : m.flip p a k = (6, m) := by unfold M.flip; rw [if_neg (by rw [hz]; decide), if_pos hr]
      rw [e] at hcode ⊢
      rcases hd with ⟨_, rfl⟩ | ⟨h0, _⟩
      · exact h
      · rw [hcode] at h0; cases h0
    · have e : m.flip p a k = (0, m.setFile (m.file p).1 ⟨Disk.flipped (m.fileAt (m.file p).1).now a.toNat k, Disk.flipped (m.fileAt (m.file p).1).now a.toNat k, []⟩) := by
        unfold M.flip; rw [if_neg (by rw [hz]; decide), if_neg hr]; rfl
      rw [e] at hcode ⊢
      rcases hd with ⟨h0, _⟩ | ⟨_, i, hfo, rfl⟩
      · exact absurd hcode h0
      · obtain ⟨_, h2⟩ := h.openCode p
        obtain ⟨h3, h4⟩ := h2 hz
        rw [h3] at hfo
        injection hfo with hfo
        have hi := h.fileLt hz
        rw [hfo] at h4 hi hr ⊢
        obtain ⟨g1, g2, g3⟩ := h.good i hi
        have hb := h.nowl hi
        have hbl := g1.len
        rw [hb]
        rw [hb] at hr
        have hl : (Disk.flipped (pfAt G i).bytes a.toNat k).length = (pfAt G i).bytes.length := by unfold Disk.flipped; rw [List.length_set]
        have hok : okB S (Disk.flipped (pfAt G i).bytes a.toNat k) := by
          refine ⟨by rw [hl]; exact hbl, fun x hx => ?_⟩
          unfold Disk.flipped at hx
          rcases List.mem_or_eq_of_mem_set hx with h5 | h5
          · exact g1.ok.2 x h5
          · subst h5
            have h6 : (pfAt G i).bytes.getD a.toNat 0 < 256 := by
              rw [List.getD_eq_getElem?_getD]
              cases hx : (pfAt G i).bytes[a.toNat]? with
              | none => decide
              | some y => exact g1.ok.2 y (List.mem_of_getElem? hx)
            exact Nat.xor_lt_two_pow (n := 8) h6 hk
        exact h.filed (Nat.le_refl _) h4 hi (FRel.fresh _) ⟨PF.Good.fresh hok, by simp [unitsOf], by simp⟩ ⟨by simp, by rw [hl]; exact hbl, trivial⟩ rfl rfl rfl rfl rfl (by show G.used + _ = G.used + _; rw [hl]) rfl rfl h.crash h.await h.crashl
  · have e : m.flip p a k = ((m.file p).2, m) := by unfold M.flip; rw [if_pos hz]
    rw [e] at hcode ⊢
    rcases hd with ⟨_, rfl⟩ | ⟨h0, _⟩
    · exact h
    · rw [hcode] at h0; exact absurd h0 hz

theorem Rel.crashed (h : Rel G m S) {n : Int} (hn : inI n) : Rel { G with crash := n.toNat } (m.crash n) S := by
  unfold inI at hn
  refine ⟨h.cur, h.dur, h.wfc, h.wfd, h.steps, h.chain, h.len, h.files, h.good, h.docs, h.cap, h.capl, h.off, fun _ => rfl, ?_, ?_, h.used, h.nt, h.nd, h.ns, h.nf⟩
  · show n.toNat < _; omega
  · show n.toNat < _; omega

def newM (c : Int) : M := { things := [], safe := [], steps := [], files := [], cap := (min (max c 0) 67108864).toNat, off := false, await := 0 }

theorem rel_new (c : Int) : Rel (newG c) (newM c) 0 := by
  have t0 : TRel ⟨none, []⟩ [] := ⟨⟨List.nodup_nil, fun x hx => (by cases hx)⟩, fun e _ => ⟨fun ⟨x, hx, _⟩ => (by cases hx), fun ⟨x, hx, _⟩ => (by cases hx)⟩, fun e m j => ⟨fun ⟨x, hx, _⟩ => (by cases hx), fun ⟨x, hx, _⟩ => (by cases hx)⟩⟩
  have w0 : Wf [] 0 := ⟨List.nodup_nil, fun t ht => (by cases ht), fun t ht => (by cases ht), fun t ht => (by cases ht), fun t ht => (by cases ht)⟩
  refine ⟨t0, t0, w0, w0, rfl, rfl, rfl, fun i hi => (by cases hi), fun i hi => (by cases hi), fun i hi => (by cases hi), rfl, ?_, rfl, fun _ => rfl, (by show (0 : Nat) < 9223372036854775808; omega), (by show (0 : Nat) < 9223372036854775808; omega), rfl, by simp [newM], by simp [newM], by simp [newM], by simp [newM]⟩
  show (min (max c 0) 67108864).toNat ≤ 67108864
  omega

end
end Go.Proofs.YtmmlefbokplnnaaGreatDoor.Disk

namespace Go.Proofs.YtmmlefbokplnnaaGreatDoor.Disk
open Go.RowKit Go Go.Proofs.YtmmlefbokplnnaaGreatDoor.Base Go.Proofs.YtmmlefbokplnnaaGreatDoor.Map

theorem usedBy_take (fs : List FB) (l : List Thing) (j : Nat) (hj : j < l.length) : usedBy fs (l.take (j + 1)) = usedBy fs (l.take j) + (if (l[j]'hj).dir then 0 else lenAt fs (l[j]'hj).num) := by
  rw [List.take_succ_eq_append_getElem hj, usedBy_append, usedBy_cons]
  simp [usedBy]

theorem usedBy_take_le (fs : List FB) (l : List Thing) (j : Nat) : usedBy fs (l.take j) ≤ usedBy fs l := by
  have := usedBy_append fs (l.take j) (l.drop j)
  rw [List.take_append_drop] at this
  omega

section
variable {w : World} {R : Nat} {q : RefG} {m : M}

set_option maxRecDepth 100000 in
set_option maxHeartbeats 1000000 in
theorem Used_ref (h : RefAt w R q m) (hm : Lim m) (hn : NumsIn m) : Calls Tryz.prog 43 #[.pointer (some ⟨R, 0, none⟩)] w fun r w' => r = .returned (.int .i64 (m.used : Int)) ∧ ∃ n, w' = w.drewN n := by
  obtain ⟨N, hN⟩ : ∃ N, m.things.length = N := ⟨_, rfl⟩
  obtain ⟨ao, cap, hv, hcap, hr⟩ := row_open (f := thingC) (k := 3) (fun _ => rfl) h.things rfl
  have c0 : w.cell? ⟨R, 0, none⟩ = some q.tv := h.cell 0
  have c3 : w.cell? ⟨R, 3, none⟩ = some q.fv := h.cell 3
  have c5 : w.cell? ⟨R, 5, none⟩ = some (.bool m.off) := h.cell 5
  rw [hv, hN] at c0
  have hsum := hm.sum
  have hlen := hm.things
  rw [hN] at hlen
  have hfl := hm.files
  unfold M.used at hsum ⊢
  have H := Lib.hid h
  have HN := Lib.hid hN
  have HR := Lib.hid hr
  have HI := Lib.hid hn
  clear h hN hr hn hm hv hcap
  cases ho : m.off
  · rw [ho] at c5 hsum
    simp only [Bool.false_eq_true, if_false] at hsum ⊢
    have HS := Lib.hid hsum
    clear hsum ho
    go_enter Tryz.func43, Tryz.ntmps43
    go_wp2_with fail
    go_loopg [3, 4] N (fun r u i wr => ∃ (j : Nat), Hid (j + r = N) ∧ j ≤ N ∧ u = .int .i64 ((usedBy m.files (m.things.take j) : Nat) : Int) ∧ i = .int .i64 (j : Int) ∧ ∃ n, wr = w.drewN n)
    case atStart => exact ⟨0, Nat.zero_add _, Nat.zero_le _, rfl, rfl, 0, rfl⟩
    case round =>
      obtain ⟨j, hE, hj, rfl, rfl, nd, rfl⟩ := hrel
      by_cases hlt : j < N
      · have hjl : j < m.things.length := by rw [HN.out]; exact hlt
        obtain ⟨g, rfl, hg, hc⟩ := HR.out j hjl
        have d1 : w.cell? ⟨g, j * 3 + 1, none⟩ = some (.bool (m.things[j]'hjl).dir) := hc 1 (by omega)
        have d2 : w.cell? ⟨g, j * 3 + 2, none⟩ = some (.int .i64 ((m.things[j]'hjl).num : Int)) := hc 2 (by omega)
        have htk := usedBy_take m.files m.things j hjl
        have hle := usedBy_take_le m.files m.things (j + 1)
        have hS := HS.out
        have hdn : (m.things[j]'hjl).dir = false → (m.things[j]'hjl).num < m.files.length := HI.out _ (List.getElem_mem hjl)
        cases hd : (m.things[j]'hjl).dir
        · rw [hd] at d1 htk
          have hlt2 := hdn hd
          obtain ⟨gf, fc, hfv, hfcap, hgf, k0, _, _⟩ := H.out.fileCells hlt2
          have e3 := c3
          rw [hfv] at e3
          clear c3
          have hsz : (strN (m.fileAt (m.things[j]'hjl).num).now).size = lenAt m.files (m.things[j]'hjl).num := by rw [strN_size, lenAt_eq]
          simp only [Bool.false_eq_true, if_false] at htk
          generalize strN (m.fileAt (m.things[j]'hjl).num).now = tx at k0 hsz
          generalize lenAt m.files (m.things[j]'hjl).num = ln at hsz htk
          generalize (m.things[j]'hjl).num = nm at d2 k0 hlt2
          obtain ⟨u0, hu0⟩ : ∃ u0, usedBy m.files (m.things.take j) = u0 := ⟨_, rfl⟩
          obtain ⟨u1, hu1⟩ : ∃ u1, usedBy m.files (m.things.take (j + 1)) = u1 := ⟨_, rfl⟩
          rw [hu0, hu1] at htk
          rw [hu1] at hle
          rw [hu0]
          have hs1 : IntKind.i64.wrap ((u0 : Int) + (tx.size : Int)) = (u1 : Int) := by rw [IntWalk.i64_in _ (by omega)]; omega
          have HU1 := Lib.hid hu1
          obtain ⟨FN, hFN⟩ : ∃ FN, m.files.length = FN := ⟨_, rfl⟩
          have hfl2 := hfl
          rw [hFN] at e3 hlt2 hfcap hfl2
          have HFN := Lib.hid hFN
          clear hFN
          clear hc hd hdn hle hS htk hu1 hfv hu0 hsz
          have hltI : (nm : Int) < (FN : Int) := by omega
          have hjI : (j : Int) < (N : Int) := by omega
          go_wp2_with fail
          go_quiet (fail)
          go_wp2
          go_roundg (N - (j + 1))
          case measure => have := hE.out; omega
          case rel => exact ⟨j + 1, by show _ = _; omega, by omega, by rw [HU1.out], by go_num, _, rfl⟩
        · rw [hd] at d1 htk
          simp only [if_true, Nat.add_zero] at htk
          have HT := Lib.hid htk
          clear hc hd hdn hle hS htk d2
          go_wp2
          go_roundg (N - (j + 1))
          case measure => have := hE.out; omega
          case rel => exact ⟨j + 1, by show _ = _; omega, by omega, by rw [HT.out], by go_num, nd, rfl⟩
      · obtain rfl : j = N := by omega
        have hall : m.things.take j = m.things := by rw [List.take_of_length_le]; rw [HN.out]; exact Nat.le_refl _
        rw [hall]
        clear hlt hE hall
        obtain ⟨u, hu⟩ : ∃ u, usedBy m.files m.things = u := ⟨_, rfl⟩
        rw [hu]
        have HU := Lib.hid hu
        clear hu
        go_wp2
        go_ret
        exact ⟨by rw [HU.out]; rfl, nd, rfl⟩
  · rw [ho] at c5
    simp only [if_true] at hsum ⊢
    clear ho
    go_enter Tryz.func43, Tryz.ntmps43
    go_wp2_with fail
    go_loopg [3, 4] N (fun r u i wr => Hid (r = N) ∧ u = .int .i64 0 ∧ i = .int .i64 0 ∧ wr = w)
    case atStart => exact ⟨rfl, rfl, rfl, rfl⟩
    case round =>
      obtain ⟨hE, rfl, rfl, rfl⟩ := hrel
      by_cases h0 : (0 : Int) < (N : Int)
      · go_wp2
        go_ret
        exact ⟨rfl, 0, rfl⟩
      · go_wp2
        go_ret
        exact ⟨rfl, 0, rfl⟩

end
end Go.Proofs.YtmmlefbokplnnaaGreatDoor.Disk

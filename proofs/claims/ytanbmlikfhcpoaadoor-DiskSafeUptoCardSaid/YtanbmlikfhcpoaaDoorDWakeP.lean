/-
  The calls of wakes, one after the other: what each leaves. Own text.
-/
import Derived.Test.YtanbmlikfhcpoaaDoorDRestart2
import Derived.Test.YtanbmlikfhcpoaaDoorDAppend
import Derived.Test.YtanbmlikfhcpoaaDoorDDurable
namespace Go.Proofs.YtanbmlikfhcpoaaDoor.Disk
open Go.RowKit Go Go.Proofs.YtanbmlikfhcpoaaDoor.Base Go.Proofs.YtanbmlikfhcpoaaDoor.Map

/-- a disk that was made since w0, and a world that left all that was there before -/
structure Own (w0 w : World) (D : Nat) (G : DiskG) : Prop where
  disk : DiskAt w D G
  below : Below w0.heap.size w0 w
  own : ∀ k, G.own D k → w0.heap.size ≤ k

theorem Own.step {w0 w w' : World} {D : Nat} {G G' : DiskG} (h : Own w0 w D G) (hd : DiskAt w' D G') (ht : Turn (G.own D) w w') (hn : ∀ k, G'.own D k → G.own D k ∨ w.heap.size ≤ k) : Own w0 w' D G' :=
  ⟨hd, (((Turn.of_below h.below : Turn (fun _ => False) _ _).mono (S' := fun k => w0.heap.size ≤ k) (fun _ _ hh => hh.elim)).trans (S' := G.own D) ht (fun i _ hh => h.own i hh)).below (Nat.le_refl _) (fun i hi hh => by omega), fun k hk => by
    rcases hn k hk with h1 | h1
    · exact h.own k h1
    · have := h.below.size; omega⟩

theorem Own.below_trans {w0 w w' : World} {D : Nat} {G : DiskG} (h : Own w0 w D G) (hb : Below w.heap.size w w') : Own w0 w' D G :=
  ⟨h.disk.below hb, h.below.trans (hb.mono h.below.size), h.own⟩

theorem Own.env {w0 w : World} {D : Nat} {G : DiskG} {E : Nat → Addr} (h : Own w0 w D G) (he : Env w0 E) : Env w E := he.turn (S := fun _ => False) (Turn.of_below h.below) (fun _ _ h => h)

theorem ErrAt.zero {w : World} {E : Nat → Addr} {v : Value} {op p : ByteArray} (h : ErrAt w E v 0 op p) : v = .nilIface := by
  rcases h with ⟨_, h⟩ | ⟨h, _⟩
  · exact h
  · exact absurd rfl h

abbrev aN : ByteArray := ⟨#[97]⟩
theorem aN_path : isPath aN = true := by decide
theorem aN_dir : dirOf aN = ByteArray.empty := by decide
theorem aN_base : baseOf aN = aN := by decide

/-- a tree with one file: a -/
def oneT (g : TreeG) : Prop := ∃ fm b, g = ⟨some fm, [⟨ByteArray.empty, b, [(aN, 0)]⟩]⟩
theorem oneT.file {g : TreeG} (h : oneT g) : fileOf g aN = some 0 := by
  obtain ⟨fm, b, rfl⟩ := h
  unfold fileOf
  rw [aN_dir, aN_base]
  simp [lookFile, lookDir, Map.get]
theorem oneT.folder {g : TreeG} (h : oneT g) : isFolderG g aN = false := by
  obtain ⟨fm, b, rfl⟩ := h
  have h1 : decide (aN.size = 0) = false := by decide
  have h2 : ¬ ByteArray.empty = aN := by decide
  unfold isFolderG lookDir
  rw [h1]
  simp [h2]
theorem oneT.nums {g : TreeG} (h : oneT g) : numsIn g 1 := by
  obtain ⟨fm, b, rfl⟩ := h
  intro x hx p hp
  simp at hx; subst hx
  simp at hp; subst hp
  simp
theorem oneT_of_put {g : TreeG} (h : PutTo ⟨none, []⟩ g ByteArray.empty aN 0) : oneT g := by
  obtain ⟨gm, x, h1, h2, h3⟩ := h
  rcases h1 with rfl | ⟨_, fm, b, rfl⟩
  · simp [lookDir] at h2
  · simp [lookDir] at h2
    subst h2
    exact ⟨fm, b, by rw [h3]; simp [setFiles, Map.put]⟩

/-- the disk of wakes: one file -/
structure St (G : DiskG) (p : PF) (u : Nat) : Prop where
  gc : oneT G.gc
  gd : oneT G.gd
  steps : G.steps = []
  pfs : G.pfs = [p]
  cap : G.cap = 9
  used : G.used = u
  off : G.off = false
  crash : G.crash = 0

theorem St.nums {G : DiskG} {p : PF} {u : Nat} (h : St G p u) : NumsOk G := by
  refine ⟨?_, ?_, ?_⟩
  · rw [h.pfs]; exact h.gc.nums
  · rw [h.pfs]; exact h.gd.nums
  · rw [h.steps]; intro x hx; cases hx
theorem St.open {G : DiskG} {p : PF} {u : Nat} (h : St G p u) : openCode G aN = 0 := by
  unfold openCode
  rw [h.off, aN_path, h.gc.folder, h.gc.file]
  rfl
theorem St.pf {G : DiskG} {p : PF} {u : Nat} (h : St G p u) : pfAt G 0 = p := by unfold pfAt; rw [h.pfs]; rfl
theorem St.text {G : DiskG} {p : PF} {u : Nat} (h : St G p u) : allText G aN = p.bytes := by
  unfold allText
  rw [if_pos h.open, h.gc.file]
  simp [h.pf]

section
variable {w0 w : World} {D : Nat} {G : DiskG} {E : Nat → Addr}

theorem wk_create (he : Env w0 E) (h8 : 8 ≤ w0.heap.size) (h : Own w0 w D (newG 9)) : Calls Tryd.prog 7 #[.pointer (some ⟨D, 0, none⟩), .string aN] w fun r w' =>
    r = .returned .nilIface ∧ ∃ G', Own w0 w' D G' ∧ oneT G'.gc ∧ G'.gd = ⟨none, []⟩ ∧ G'.nsteps = [⟨2, aN, ByteArray.empty, 0⟩] ∧ G'.pfs = [⟨[], []⟩] ∧ G'.cap = 9 ∧ G'.used = 0 ∧ G'.off = false ∧ G'.crash = 0 := by
  have hc : createCode (newG 9) aN = 0 := by decide
  have := Create_any h.disk (h.env he) ⟨fun x hx => (by cases hx), fun x hx => (by cases hx), fun x hx => (by cases hx)⟩ (by decide) (fun k hk hh => by have := h.own k hh; omega) (by have := h.below.size; omega) (by decide) aN (by decide)
  refine this.mono fun r w' ⟨v, G', h1, h2, h3, h4, h5, h6⟩ => ?_
  rw [hc] at h2 h5
  rw [h2.zero] at h1
  refine ⟨h1, G', h.step h3 h4 h6, ?_⟩
  rcases h5 with ⟨h5, _⟩ | ⟨_, B, v, bs, _, g1, g2, g3, _, g5, _, _, g8, g9, g10, g11⟩
  · exact absurd rfl h5
  · rw [aN_dir, aN_base] at g1
    refine ⟨oneT_of_put g1, g3, ?_, ?_, g8, g9, g10, g11⟩
    · unfold DiskG.nsteps; rw [g2]; rfl
    · rw [g5]; rfl

theorem wk_names (he : Env w0 E) (h8 : 8 ≤ w0.heap.size) (h : Own w0 w D G) (g1 : oneT G.gc) (g2 : G.gd = ⟨none, []⟩) (g3 : G.nsteps = [⟨2, aN, ByteArray.empty, 0⟩]) (g4 : G.pfs = [⟨[], []⟩]) (g5 : G.cap = 9) (g6 : G.used = 0) (g7 : G.off = false) (g8 : G.crash = 0) :
    Calls Tryd.prog 10 #[.pointer (some ⟨D, 0, none⟩)] w fun r w' => r = .returned .nilIface ∧ ∃ G', Own w0 w' D G' ∧ St G' ⟨[], []⟩ 0 := by
  have hc : syncNamesCode G = 0 := by unfold syncNamesCode; rw [g7, g8]; rfl
  have hl : G.steps.length = 1 := by have := congrArg List.length g3; simpa [DiskG.nsteps] using this
  have := SyncNames_any h.disk (h.env he) (by rw [g8]; decide) (fun k hk hh => by have := h.own k hh; omega) (by omega) (fun j hj gm _ => by
    have hs : (G.steps[j]'hj).s = ⟨2, aN, ByteArray.empty, 0⟩ := by
      have : G.nsteps[j]'(by unfold DiskG.nsteps; simpa using hj) = (G.steps[j]'hj).s := by simp [DiskG.nsteps]
      rw [← this]
      have h0 : j = 0 := by omega
      subst h0
      simp [g3]
    rw [hs]
    exact ⟨fun h => (by cases h), by decide, by decide⟩)
  refine this.mono fun r w' ⟨v, G', h1, h2, h3, h4, h5, h6⟩ => ?_
  rw [hc] at h2 h5
  rw [h2.zero] at h1
  refine ⟨h1, G', h.step h3 h4 h6, ?_⟩
  rcases h5 with ⟨h5, _⟩ | ⟨_, gd', hap, rfl⟩
  · exact absurd rfl h5
  · rw [g3, g2] at hap
    obtain ⟨gm, ha, rfl⟩ := hap
    rcases ha with ⟨hk, _⟩ | ⟨_, hp⟩
    · cases hk
    · simp only [aN_dir, aN_base] at hp
      exact ⟨g1, oneT_of_put hp, rfl, g4, g5, g6, g7, by simp [g8]⟩

theorem wk_append {p : PF} {u : Nat} (he : Env w0 E) (h : Own w0 w D G) (hs : St G p u) (hl : p.bytes.length < 1000 ∧ p.steps = []) (ao : Option Addr) (len cap : Nat) (ps : Nat → ByteArray) (hP : PartsAt w ao len ps) (hpo : ∀ b off, ao = some ⟨b, off, none⟩ → ¬ G.own D b) (hll : len < 10) (hT : u + (cat ps len).length ≤ 9) :
    Calls Tryd.prog 8 #[.pointer (some ⟨D, 0, none⟩), .string aN, .slice ao len cap] w fun r w' => r = .returned .nilIface ∧ ∃ G', Own w0 w' D G' ∧ St G' (p.add (cat ps len)) (u + (cat ps len).length) := by
  have hc : appendCode G aN (cat ps len).length = 0 := by unfold appendCode; rw [hs.open, hs.cap, hs.used, hs.crash, if_neg (by simp), if_neg (by omega), if_neg (by decide)]
  have := Append_any h.disk (h.env he) hs.nums (by rw [hs.crash]; decide) aN (by decide) ao len cap ps hP hpo (by omega) (by omega) (by rw [hs.cap]; decide) (by rw [hs.used]; omega) (fun i hi => by
    have h0 : i = 0 := by rw [hs.pfs] at hi; simpa using hi
    subst h0
    rw [hs.pf, hl.2]
    exact ⟨by omega, by decide, fun k r hh => by cases hh⟩)
  refine this.mono fun r w' ⟨v, G', h1, h2, h3, h4, h5, h6⟩ => ?_
  rw [hc] at h2 h5
  rw [h2.zero] at h1
  refine ⟨h1, G', h.step h3 h4 h6, ?_⟩
  rcases h5 with ⟨h5, _⟩ | ⟨_, i, bv, sv, hf, rfl⟩
  · exact absurd rfl h5
  · rw [hs.gc.file] at hf
    injection hf with hf
    subst hf
    refine ⟨hs.gc, hs.gd, hs.steps, ?_, hs.cap, ?_, hs.off, ?_⟩
    · simp [DiskG.file, hs.pfs, hs.pf]
    · simp [hs.used]
    · simp [DiskG.file, hs.crash]

theorem wk_sync {p : PF} {u : Nat} (he : Env w0 E) (h : Own w0 w D G) (hs : St G p u) :
    Calls Tryd.prog 9 #[.pointer (some ⟨D, 0, none⟩), .string aN] w fun r w' => r = .returned .nilIface ∧ ∃ G', Own w0 w' D G' ∧ St G' ⟨p.bytes, []⟩ u := by
  have hc : syncCode G aN = 0 := by unfold syncCode; rw [hs.open, hs.crash]; rfl
  have := Sync_any h.disk (h.env he) hs.nums (by rw [hs.crash]; decide) aN (by decide)
  refine this.mono fun r w' ⟨v, G', h1, h2, h3, h4, h5, h6⟩ => ?_
  rw [hc] at h2 h5
  rw [h2.zero] at h1
  refine ⟨h1, G', h.step h3 h4 h6, ?_⟩
  rcases h5 with ⟨h5, _⟩ | ⟨_, i, hf, rfl⟩
  · exact absurd rfl h5
  · rw [hs.gc.file] at hf
    injection hf with hf
    subst hf
    refine ⟨hs.gc, hs.gd, hs.steps, ?_, hs.cap, hs.used, hs.off, ?_⟩
    · simp [DiskG.file, hs.pfs, hs.pf]
    · simp [DiskG.file, hs.crash]

theorem wk_all {p : PF} {u : Nat} (he : Env w0 E) (h : Own w0 w D G) (hs : St G p u) :
    Calls Tryd.prog 12 #[.pointer (some ⟨D, 0, none⟩), .string aN] w fun r w' => r = .returned (.tuple #[.string (strN p.bytes), .nilIface]) ∧ Own w0 w' D G := by
  have := All_any h.disk (h.env he) hs.nums aN (by decide)
  refine this.mono fun r w' ⟨v, h1, h2, h3⟩ => ?_
  rw [hs.open] at h2
  rw [h2.zero, hs.text] at h1
  exact ⟨h1, h.below_trans h3⟩

end
end Go.Proofs.YtanbmlikfhcpoaaDoor.Disk

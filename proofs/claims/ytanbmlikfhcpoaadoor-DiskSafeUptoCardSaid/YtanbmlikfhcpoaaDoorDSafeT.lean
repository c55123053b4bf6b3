/-
  A folder of one's own with its files: what the names steps of the law make of a tree. Own text, without the program's walks.
-/
import Derived.Test.YtanbmlikfhcpoaaDoorDDurable
import Derived.Test.YtanbmlikfhcpoaaDoorDKept
namespace Go.Proofs.YtanbmlikfhcpoaaDoor.Disk
open Go.RowKit Go Go.Proofs.YtanbmlikfhcpoaaDoor.Base Go.Proofs.YtanbmlikfhcpoaaDoor.Map

def sx : ByteArray := ⟨#[120]⟩
def nm (i : Nat) : ByteArray := strN [97 + i]
def px (i : Nat) : ByteArray := ⟨#[120, 47]⟩ ++ nm i
theorem px_facts : ∀ i, i < 26 → dirOf (px i) = sx ∧ baseOf (px i) = nm i ∧ isPath (px i) = true ∧ (px i).size = 3 ∧ (nm i).size = 1 ∧ isFolderG ⟨none, []⟩ (px i) = false := by decide +kernel
theorem nm_inj : ∀ i, i < 26 → ∀ j, j < 26 → nm i = nm j → i = j := by decide +kernel
theorem px_sx : ∀ i, i < 26 → px i ≠ sx := by decide +kernel
theorem sx_facts : isName sx = true ∧ dirOf sx = ByteArray.empty ∧ baseOf sx = sx ∧ sx.size = 1 := by decide +kernel

def fsN (n : Nat) : List (ByteArray × Nat) := (List.range n).map fun j => (nm j, j)
theorem fsN_succ (n : Nat) : fsN (n + 1) = fsN n ++ [(nm n, n)] := by
  unfold fsN
  rw [List.range_succ, List.map_append]
  rfl
theorem put_app {α : Type} : ∀ (l : List (ByteArray × α)) (k : ByteArray) (v : α), k ∉ keys l → put l k v = l ++ [(k, v)]
  | [], _, _, _ => rfl
  | p :: r, k, v, h => by
    have h1 : ¬ p.1 = k := fun e => h (by simp [keys, e])
    rw [put, if_neg h1, put_app r k v (fun hh => h (by simp only [keys, List.map_cons, List.mem_cons]; exact .inr hh))]
    rfl
theorem fsN_keys (n : Nat) (hn : n ≤ 26) (i : Nat) (hi : i < 26) : nm i ∈ keys (fsN n) ↔ i < n := by
  unfold fsN keys
  rw [List.map_map, List.mem_map]
  constructor
  · rintro ⟨j, hj, e⟩
    have hj := List.mem_range.1 hj
    have := nm_inj j (by omega) i hi e
    omega
  · intro h
    exact ⟨i, List.mem_range.2 h, rfl⟩

/-- one folder, and in it the first n files -/
def Shape (g : TreeG) (n : Nat) : Prop := ∃ fm b, g = ⟨fm, [⟨sx, b, fsN n⟩]⟩
theorem Shape.look {g : TreeG} {n : Nat} (h : Shape g n) : ∃ b, lookDir g sx = some ⟨sx, b, fsN n⟩ := by
  obtain ⟨fm, b, rfl⟩ := h
  exact ⟨b, by simp [lookDir]⟩
theorem Shape.file {g : TreeG} {n i : Nat} (h : Shape g n) (hn : n ≤ 26) (hi : i < n) : fileOf g (px i) = some i := by
  obtain ⟨b, hl⟩ := h.look
  obtain ⟨f1, f2, _⟩ := px_facts i (by omega)
  unfold fileOf lookFile
  rw [f1, f2, hl]
  have hnd : (keys (fsN n)).Nodup := by
    unfold fsN keys
    rw [List.map_map]
    refine List.pairwise_map.2 (List.Pairwise.imp_of_mem (fun {a c} ha hc hne e => hne (nm_inj a (by have := List.mem_range.1 ha; omega) c (by have := List.mem_range.1 hc; omega) e)) List.nodup_range)
  exact (get_some hnd).2 (by unfold fsN; exact List.mem_map.2 ⟨i, List.mem_range.2 hi, rfl⟩)
theorem Shape.noFile {g : TreeG} {n i : Nat} (h : Shape g n) (hn : n ≤ 26) (hi : n ≤ i) (hi2 : i < 26) : fileOf g (px i) = none := by
  obtain ⟨b, hl⟩ := h.look
  obtain ⟨f1, f2, _⟩ := px_facts i hi2
  unfold fileOf lookFile
  rw [f1, f2, hl]
  exact get_none.2 (fun hh => by have := (fsN_keys n hn i hi2).1 hh; omega)
theorem Shape.folder {g : TreeG} {n i : Nat} (h : Shape g n) (hi : i < 26) : isFolderG g sx = true ∧ isFolderG g (px i) = false := by
  obtain ⟨fm, b, rfl⟩ := h
  have h3 := (px_facts i hi).2.2.2.1
  constructor
  · simp [isFolderG, lookDir]
  · have hne : ¬ sx = px i := fun e => px_sx i hi e.symm
    simp [isFolderG, lookDir, hne]
    intro e
    rw [e] at h3
    cases h3
theorem Shape.put {g g' : TreeG} {n : Nat} (h : Shape g n) (hn : n < 26) (hp : PutTo g g' sx (nm n) n) : Shape g' (n + 1) := by
  obtain ⟨b, hl⟩ := h.look
  obtain ⟨fm, b0, rfl⟩ := h
  obtain ⟨gm, x, h1, h2, rfl⟩ := hp
  rcases h1 with rfl | ⟨h1, _⟩
  · rw [hl] at h2
    injection h2 with h2
    subst h2
    refine ⟨fm, b0, ?_⟩
    simp only [setFiles, List.map_cons, List.map_nil, if_true]
    rw [put_app _ _ _ (fun hh => by have := (fsN_keys n (by omega) n hn).1 hh; omega), ← fsN_succ]
  · rw [hl] at h1; cases h1
theorem Shape.dirs {g : TreeG} {n : Nat} (h : Shape g n) : ∃ b, g.ds = [⟨sx, b, fsN n⟩] := by
  obtain ⟨fm, b, rfl⟩ := h
  exact ⟨b, rfl⟩

/-- the law's names steps -/
def mkS : NStep := ⟨1, sx, ByteArray.empty, 0⟩
def crS (i : Nat) : NStep := ⟨2, px i, ByteArray.empty, i⟩
def stN (n : Nat) : List NStep := mkS :: (List.range n).map crS
theorem stN_succ (n : Nat) : stN (n + 1) = stN n ++ [crS n] := by
  unfold stN
  rw [List.range_succ, List.map_append]
  rfl
theorem AppAll.snoc_inv {s : NStep} : ∀ {l : List NStep} {g g' : TreeG}, AppAll (l ++ [s]) g g' → ∃ gm, AppAll l g gm ∧ Applied s gm g'
  | [], g, g', ⟨gm, h1, h2⟩ => by cases h2; exact ⟨g, rfl, h1⟩
  | a :: r, g, g', ⟨gm, h1, h2⟩ => by
    obtain ⟨q, h3, h4⟩ := AppAll.snoc_inv h2
    exact ⟨q, ⟨gm, h1, h3⟩, h4⟩
theorem steps_shape {g : TreeG} (h0 : g.ds = []) : ∀ (n : Nat), n ≤ 26 → ∀ g', AppAll (stN n) g g' → Shape g' n
  | 0, _, g', ⟨gm, h1, h2⟩ => by
    cases h2
    rcases h1 with ⟨_, fm, b, rfl⟩ | ⟨hk, _⟩
    · rw [h0]; exact ⟨some fm, b, rfl⟩
    · cases hk
  | n + 1, hn, g', h => by
    rw [stN_succ] at h
    obtain ⟨gm, h1, h2⟩ := AppAll.snoc_inv h
    have hs := steps_shape h0 n (by omega) gm h1
    rcases h2 with ⟨hk, _⟩ | ⟨_, hp⟩
    · cases hk
    · obtain ⟨f1, f2, _⟩ := px_facts n (by omega)
      have e1 : dirOf (crS n).a = sx := f1
      have e2 : baseOf (crS n).a = nm n := f2
      rw [e1, e2] at hp
      exact hs.put (by omega) hp
theorem steps_fit {g : TreeG} (h0 : g.ds = []) (n : Nat) (hn : n ≤ 26) : ∀ j (hj : j < (stN n).length) gm, AppAll ((stN n).take j) g gm → Fits ((stN n)[j]'hj) gm := by
  intro j hj gm h
  cases j with
  | zero =>
    cases h
    exact ⟨fun _ => by simp [lookDir, h0], by show sx.size < _; rw [sx_facts.2.2.2]; omega, by show ByteArray.empty.size < _; decide⟩
  | succ j =>
    have hj2 : j < n := by simpa [stN] using hj
    have e : (stN n)[j + 1]'hj = crS j := by simp [stN]
    rw [e]
    exact ⟨fun hk => (by cases hk), by show (px j).size < _; rw [(px_facts j (by omega)).2.2.2.1]; omega, by show ByteArray.empty.size < _; decide⟩
theorem Shape.plain {g : TreeG} {n : Nat} (h : Shape g n) (hn : n ≤ 26) : Plain g n ∧ (allPaths g.ds).length = n := by
  obtain ⟨fm, b, rfl⟩ := h
  have hns : noSl sx := by unfold noSl; decide +kernel
  have hnm : ∀ i, i < 26 → noSl (nm i) := by unfold noSl; decide +kernel
  refine ⟨⟨fun x hx => ?_, fun x hx p hp => ?_⟩, ?_⟩
  · rw [List.mem_singleton.1 hx]
    exact ⟨hns, by show sx.size < _; rw [sx_facts.2.2.2]; omega⟩
  · rw [List.mem_singleton.1 hx] at hp
    obtain ⟨j, hj, rfl⟩ := List.mem_map.1 hp
    have hj := List.mem_range.1 hj
    exact ⟨hnm j (by omega), by show (nm j).size < _; rw [(px_facts j (by omega)).2.2.2.2.1]; omega, hj⟩
  · simp [allPaths, pathsOf, fsN]
end Go.Proofs.YtanbmlikfhcpoaaDoor.Disk

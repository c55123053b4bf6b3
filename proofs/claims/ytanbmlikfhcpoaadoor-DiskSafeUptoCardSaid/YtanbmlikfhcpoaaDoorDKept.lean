/-
  What a Restart leaves, in pure data: which file a path stands for, what each file keeps. Own text.
-/
import Derived.Test.YtanbmlikfhcpoaaDoorDPaths
namespace Go.Proofs.YtanbmlikfhcpoaaDoor.Disk
open Go.RowKit Go Go.Proofs.YtanbmlikfhcpoaaDoor.Base Go.Proofs.YtanbmlikfhcpoaaDoor.Map

def noSl (s : ByteArray) : Prop := 47 ∉ nums s
theorem sl_none {s : ByteArray} (h : noSl s) : sl s = s.size := by
  unfold sl
  rw [← nums_length]
  refine List.findIdx_eq_length.2 fun x hx => ?_
  simp
  rintro rfl
  exact h hx

theorem nums_path (d n : ByteArray) : nums (d ++ ⟨#[47]⟩ ++ n) = nums d ++ 47 :: nums n := by
  simp [nums, ByteArray.data_append]

theorem sl_path {d n : ByteArray} (h : noSl d) : sl (d ++ ⟨#[47]⟩ ++ n) = d.size := by
  unfold sl
  rw [nums_path, List.findIdx_append, if_neg, List.findIdx_cons]
  · simp [← nums_length]
  · intro hh
    have e : (nums d).findIdx (· == 47) = (nums d).length := by have := sl_none h; unfold sl at this; rw [this, nums_length]
    omega

theorem one47 : (⟨#[47]⟩ : ByteArray).size = 1 := rfl

theorem dirOf_path {d n : ByteArray} (hd : noSl d) (hn : noSl n) : dirOf (pathOf d n) = d := by
  unfold pathOf
  split
  · rename_i h0
    unfold dirOf
    rw [sl_none hn, if_neg (by omega)]
    exact (ByteArray.size_eq_zero_iff.1 h0).symm
  · unfold dirOf
    rw [sl_path hd, if_pos (by rw [ByteArray.size_append, ByteArray.size_append, one47]; omega)]
    rw [ByteArray.append_assoc]
    exact ByteArray.extract_append_eq_left rfl

theorem baseOf_path {d n : ByteArray} (hd : noSl d) (hn : noSl n) : baseOf (pathOf d n) = n := by
  unfold pathOf
  split
  · unfold baseOf
    rw [sl_none hn, if_neg (by omega)]
  · unfold baseOf
    rw [sl_path hd, if_pos (by rw [ByteArray.size_append, ByteArray.size_append, one47]; omega)]
    exact ByteArray.extract_append_eq_right (by simp [ByteArray.size_append]; rfl) (by simp)

/-- names as they are in a tree: no slash, short; the files are there -/
structure Plain (g : TreeG) (n : Nat) : Prop where
  dir : ∀ x ∈ g.ds, noSl x.name ∧ x.name.size < 1000
  file : ∀ x ∈ g.ds, ∀ p ∈ x.files, noSl p.1 ∧ p.1.size < 1000 ∧ p.2 < n

theorem TreeAt.names {w : World} {ptr : Nat → Nat} {g : TreeG} (h : TreeAt w ptr g) : (g.ds.map (·.name)).Nodup ∧ ∀ x ∈ g.ds, (x.files.map (·.1)).Nodup := by
  refine ⟨?_, fun x hx => ?_⟩
  · cases hf : g.fm with
    | none => rw [h.none hf]; exact List.nodup_nil
    | some fm => have := (h.top fm hf).nodup; simpa [keys, dirEnts, Function.comp_def] using this
  · have := (h.dirs x hx).nodup; simpa [keys, fileEnts, Function.comp_def] using this

theorem lookDir_in {g : TreeG} (hn : (g.ds.map (·.name)).Nodup) {x : DirG} (hx : x ∈ g.ds) : lookDir g x.name = some x := by
  unfold lookDir
  obtain ⟨ds, hds⟩ : ∃ ds, g.ds = ds := ⟨_, rfl⟩
  rw [hds] at hn hx ⊢
  clear hds
  induction ds with
  | nil => cases hx
  | cons a r ih =>
    rw [List.map_cons, List.nodup_cons] at hn
    rcases List.mem_cons.1 hx with rfl | hx
    · simp
    · rw [List.find?_cons_of_neg (by simp; rintro e; exact hn.1 (e ▸ List.mem_map_of_mem hx))]
      exact ih hx hn.2

theorem fileOf_mem {w : World} {ptr : Nat → Nat} {g : TreeG} {n : Nat} (h : TreeAt w ptr g) (hp : Plain g n) {x : DirG} (hx : x ∈ g.ds) {p : ByteArray × Nat} (hm : p ∈ x.files) : fileOf g (pathOf x.name p.1) = some p.2 := by
  obtain ⟨h1, h2⟩ := h.names
  unfold fileOf lookFile
  rw [dirOf_path (hp.dir x hx).1 (hp.file x hx p hm).1, baseOf_path (hp.dir x hx).1 (hp.file x hx p hm).1, lookDir_in h1 hx]
  exact (get_some (h2 x hx)).2 hm

theorem bytes_lst (s : ByteArray) : (⟨(lst s).toArray⟩ : ByteArray) = s := by
  cases s; simp [lst]

theorem path_size {d n : ByteArray} (h1 : d.size < 1000) (h2 : n.size < 1000) : (pathOf d n).size < 2001 := by
  unfold pathOf
  split
  · omega
  · simp [ByteArray.size_append]
    have : (⟨#[47]⟩ : ByteArray).size = 1 := rfl
    omega

/-- each path that is listed stands for a file -/
theorem fileOf_listed {w : World} {ptr : Nat → Nat} {g : TreeG} {n : Nat} (h : TreeAt w ptr g) (hp : Plain g n) {s : List UInt8} (hs : s ∈ allPaths g.ds) :
    ∃ k, fileOf g ⟨s.toArray⟩ = some k ∧ k < n ∧ (⟨s.toArray⟩ : ByteArray).size < 2001 := by
  obtain ⟨x, hx, hs⟩ := List.mem_flatMap.1 hs
  obtain ⟨p, hm, rfl⟩ := List.mem_map.1 hs
  rw [bytes_lst]
  exact ⟨p.2, fileOf_mem h hp hx hm, (hp.file x hx p hm).2.2, path_size (hp.dir x hx).2 (hp.file x hx p hm).2.1⟩

def wish (data : List Int) (i : Nat) : Int := if data.length = 0 then 0 else data.getD (i % data.length) 0
def pfKeep (data : List Int) (zeros : Bool) (i : Nat) (p : PF) : PF := p.keep (share (wish data i) (unitsOf p.steps)) zeros
def lenP (pfs : List PF) (k : Nat) : Nat := ((pfs[k]?).map fun p => p.bytes.length).getD 0
/-- the first paths have had their turn -/
def keptN (g : TreeG) (data : List Int) (zeros : Bool) (ps : List (List UInt8)) (pfs : List PF) : Nat → List PF × Nat
  | 0 => (pfs, 0)
  | j + 1 =>
    let r := keptN g data zeros ps pfs j
    match fileOf g ⟨(ps.getD j []).toArray⟩ with
    | none => r
    | some k => (r.1.modify k (pfKeep data zeros j), r.2 + lenP (r.1.modify k (pfKeep data zeros j)) k)

theorem keptN_length (g : TreeG) (data : List Int) (zeros : Bool) (ps : List (List UInt8)) (pfs : List PF) (j : Nat) : (keptN g data zeros ps pfs j).1.length = pfs.length := by
  induction j with
  | zero => rfl
  | succ j ih =>
    unfold keptN
    split <;> simp [ih]

theorem keep_good {B : Nat} {p : PF} (h : p.Good B) (n : Nat) (hn : n ≤ unitsOf p.steps) (z : Bool) : (p.keep n z).Good B := by
  obtain ⟨h1, h2⟩ := Good.undo h (unitsOf p.steps - n) (by rw [unitsOf_reverse]; omega)
  unfold PF.keep PF.Good
  simp only [List.reverse_nil]
  have hb : p.bytes.length ≤ B := h.len
  split
  · rename_i hz
    refine ⟨?_, fun x hx => ?_⟩
    · have := h2 (by revert hz; cases (undoR p.steps.reverse p.bytes (unitsOf p.steps - n)).2 <;> simp)
      rw [List.length_append, List.length_replicate]
      omega
    · rcases List.mem_append.1 hx with hx | hx
      · exact h1.2 x hx
      · have := List.eq_of_mem_replicate hx; omega
  · exact h1

end Go.Proofs.YtanbmlikfhcpoaaDoor.Disk

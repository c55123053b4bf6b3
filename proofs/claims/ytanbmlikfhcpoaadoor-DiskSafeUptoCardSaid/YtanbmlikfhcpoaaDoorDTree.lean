/-
  The tree of the items in memory: maps of maps of files; contracts of its look-ups. Own text.
-/
import Derived.Test.YtanbmlikfhcpoaaDoorDPath
import Derived.Test.YtanbmlikfhcpoaaDoorDMap
import Derived.Test.YtanbmlikfhcpoaaDoorDTurn
namespace Go.Proofs.YtanbmlikfhcpoaaDoor.Disk
open Go.RowKit Go Go.Proofs.YtanbmlikfhcpoaaDoor.Base Go.Proofs.YtanbmlikfhcpoaaDoor.Map

/-- a directory: its name, the block of its map, its files' numbers -/
structure DirG where
  name : ByteArray
  blk : Nat
  files : List (ByteArray × Nat)

/-- the tree: no map yet; or the block of the map of directories, and these -/
structure TreeG where
  fm : Option Nat
  ds : List DirG

def dirEnts (ds : List DirG) : List (ByteArray × Value) := ds.map fun x => (x.name, .map (some x.blk))
def ptrV (ptr : Nat → Nat) (i : Nat) : Value := .pointer (some ⟨ptr i, 0, none⟩)
def fileEnts (ptr : Nat → Nat) (fs : List (ByteArray × Nat)) : List (ByteArray × Value) := fs.map fun p => (p.1, ptrV ptr p.2)

def TreeG.blocks (g : TreeG) : List Nat := g.fm.toList ++ g.ds.map (·.blk)

structure TreeAt (w : World) (ptr : Nat → Nat) (g : TreeG) : Prop where
  none : g.fm = none → g.ds = []
  top : ∀ fm, g.fm = some fm → MapIs w fm (dirEnts g.ds)
  dirs : ∀ x ∈ g.ds, MapIs w x.blk (fileEnts ptr x.files)
  apart : g.blocks.Nodup

def lookDir (g : TreeG) (d : ByteArray) : Option DirG := g.ds.find? fun x => x.name = d
def lookFile (g : TreeG) (d n : ByteArray) : Option Nat := (lookDir g d).bind fun x => Map.get x.files n
def fileOf (g : TreeG) (p : ByteArray) : Option Nat := lookFile g (dirOf p) (baseOf p)
def fileV (ptr : Nat → Nat) : Option Nat → Value
  | none => .pointer none
  | some i => ptrV ptr i
def isFolderG (g : TreeG) (d : ByteArray) : Bool := decide (d.size = 0) || (lookDir g d).isSome

theorem get_map {α : Type} {β : Type} (l : List (ByteArray × α)) (f : α → β) (k : ByteArray) : Map.get (l.map fun p => (p.1, f p.2)) k = (Map.get l k).map f := by
  induction l with
  | nil => rfl
  | cons p r ih =>
    simp only [List.map_cons, Map.get]
    split
    · rfl
    · exact ih

theorem get_dirs (ds : List DirG) (d : ByteArray) : Map.get (dirEnts ds) d = (ds.find? fun x => x.name = d).map fun x => Value.map (some x.blk) := by
  unfold dirEnts
  induction ds with
  | nil => rfl
  | cons x r ih =>
    simp only [List.map_cons, Map.get]
    by_cases h : x.name = d
    · simp [h]
    · rw [if_neg h, ih, List.find?_cons_of_neg (by simpa using h)]

def tFold : TypeId := 41
def tFiles : TypeId := 75

theorem zero_files (w : World) : (zeroValue 75).run Tryd.prog w = .ok (.map none) w := by kernel_rfl
theorem zero_file (w : World) : (zeroValue 53).run Tryd.prog w = .ok (.pointer none) w := by kernel_rfl

/-- the value of the tree's field -/
def topV (g : TreeG) : Value := .map g.fm

/-- the look-up of a directory -/
def dirV (g : TreeG) (d : ByteArray) : Value := .map ((lookDir g d).map (·.blk))

theorem look_dir {w : World} {ptr : Nat → Nat} {g : TreeG} (h : TreeAt w ptr g) (d : ByteArray) : (Instr.lookup 41 (topV g) (.string d) false).run Tryd.prog w = .ok (dirV g d) w := by
  unfold topV dirV lookDir
  cases hg : g.fm with
  | none =>
    rw [h.none hg]
    exact lookup_nil Tryd.underlying41 Tryd.underlying9 zero_files d w
  | some fm =>
    rw [(h.top fm hg).lookup Tryd.underlying41 Tryd.underlying9 zero_files d, get_dirs]
    cases g.ds.find? fun x => x.name = d <;> rfl

theorem look_file {w : World} {ptr : Nat → Nat} {g : TreeG} (h : TreeAt w ptr g) (d n : ByteArray) : (Instr.lookup 75 (dirV g d) (.string n) false).run Tryd.prog w = .ok (fileV ptr (lookFile g d n)) w := by
  unfold dirV lookFile
  cases hl : lookDir g d with
  | none => exact lookup_nil Tryd.underlying75 Tryd.underlying9 zero_file n w
  | some x =>
    have hx : x ∈ g.ds := List.mem_of_find?_eq_some hl
    show (Instr.lookup _ (.map (some x.blk)) _ false).run _ _ = _
    rw [(h.dirs x hx).lookup Tryd.underlying75 Tryd.underlying9 zero_file n]
    unfold fileEnts
    rw [get_map]
    cases hgf : Map.get x.files n <;> simp [hgf, fileV]

theorem TreeAt.of_heap {w w' : World} {ptr : Nat → Nat} {g : TreeG} (h : TreeAt w ptr g) (hh : ∀ b ∈ g.blocks, w'.heap[b]? = w.heap[b]?) : TreeAt w' ptr g :=
  ⟨h.none, fun fm hf => (h.top fm hf).of_block (hh fm (by unfold TreeG.blocks; simp [hf])), fun x hx => (h.dirs x hx).of_block (hh _ (by unfold TreeG.blocks; simp; exact .inr ⟨x, hx, rfl⟩)), h.apart⟩

theorem TreeAt.drew {w : World} {ptr : Nat → Nat} {g : TreeG} (h : TreeAt w ptr g) (n : Nat) : TreeAt (w.drewN n) ptr g := h.of_heap fun _ _ => rfl

theorem TreeAt.lt {w : World} {ptr : Nat → Nat} {g : TreeG} (h : TreeAt w ptr g) : ∀ b ∈ g.blocks, b < w.heap.size := by
  intro b hb
  unfold TreeG.blocks at hb
  rcases List.mem_append.1 hb with hb | hb
  · cases hf : g.fm with
    | none => rw [hf] at hb; simp at hb
    | some fm => rw [hf] at hb; simp at hb; subst hb; exact (h.top _ hf).lt
  · obtain ⟨x, hx, rfl⟩ := List.mem_map.1 hb
    exact (h.dirs x hx).lt

theorem file_any {w : World} {ptr : Nat → Nat} {g : TreeG} (h : TreeAt w ptr g) (tb to' : Nat) (hc : w.cell? ⟨tb, to', none⟩ = some (topV g)) (p : ByteArray) (hp : p.size < 4294967281) (hm : Max w) :
    Calls Tryd.prog 26 #[.pointer (some ⟨tb, to', none⟩), .string p] w fun e w' => e = .returned (fileV ptr (fileOf g p)) ∧ ∃ n, w' = w.drewN n := by
  have hs := split_any p hp w hm
  have h1 : ∀ n, (Instr.lookup 41 (topV g) (.string (dirOf p)) false).run Tryd.prog (w.drewN n) = .ok (dirV g (dirOf p)) (w.drewN n) := fun n => look_dir (h.drew n) _
  have h2 : ∀ n, (Instr.lookup 75 (dirV g (dirOf p)) (.string (baseOf p)) false).run Tryd.prog (w.drewN n) = .ok (fileV ptr (fileOf g p)) (w.drewN n) := fun n => look_file (h.drew n) _ _
  clear h hp hm
  generalize fileV ptr (fileOf g p) = fv at h2 ⊢
  generalize topV g = tv at hc h1
  generalize dirV g (dirOf p) = dv at h1 h2
  generalize dirOf p = d at h1 hs
  generalize baseOf p = b at h2 hs
  go_enter Tryd.func26, Tryd.ntmps26
  go_wp2_with (go_at_call 45; refine hs.mono ?_; rintro e w2 ⟨rfl, n, rfl⟩)
  go_ret
  exact ⟨rfl, n, rfl⟩

theorem toList_data (d : ByteArray) : d.toList = d.data.toList := by
  have h : ∀ n (i : Nat) (r : List UInt8), d.size - i = n → ByteArray.toList.loop d i r = r.reverse ++ d.data.toList.drop i := by
    intro n
    induction n with
    | zero =>
      intro i r hi
      rw [ByteArray.toList.loop, if_neg (by omega), List.drop_of_length_le (by simp; omega), List.append_nil]
    | succ n ih =>
      intro i r hi
      have hlt : i < d.size := by omega
      rw [ByteArray.toList.loop, if_pos hlt, ih (i + 1) _ (by omega)]
      have hl : i < d.data.toList.length := by simpa using hlt
      rw [List.drop_eq_getElem_cons hl, List.reverse_cons, List.append_assoc]
      congr 2
      simp only [ByteArray.get!]
      rw [getElem!_pos d.data i (by simpa using hlt)]
      simp
  have := h d.size 0 [] rfl
  simpa [ByteArray.toList] using this

theorem isEmpty_iff (d : ByteArray) : d.toList.isEmpty = decide (d.size = 0) := by
  rw [toList_data]
  rw [Bool.eq_iff_iff, decide_eq_true_eq, List.isEmpty_iff]
  constructor
  · intro h
    have := congrArg List.length h
    simpa using this
  · intro h
    apply List.eq_nil_of_length_eq_zero
    simpa using h

set_option maxRecDepth 100000 in
theorem isFolder_any {w : World} {ptr : Nat → Nat} {g : TreeG} (h : TreeAt w ptr g) (tb to' : Nat) (hc : w.cell? ⟨tb, to', none⟩ = some (topV g)) (d : ByteArray) :
    Calls Tryd.prog 31 #[.pointer (some ⟨tb, to', none⟩), .string d] w fun e w' => e = .returned (.bool (isFolderG g d)) ∧ w = w' := by
  have h0 := isEmpty_iff d
  have h1 := look_dir h d
  have hq := fun (r : Option Nat) (w : World) => run_neq_map_nil (P := Tryd.prog) w 75 _ _ r Tryd.underlying75
  unfold isFolderG
  unfold dirV at h1
  clear h
  generalize topV g = tv at hc h1
  by_cases hd : d.size = 0
  · rw [decide_eq_true hd] at h0 ⊢
    rw [Bool.true_or]
    go_enter Tryd.func31, Tryd.ntmps31
    go_wp2
    go_ret
    exact ⟨rfl, rfl⟩
  · rw [decide_eq_false hd] at h0 ⊢
    rw [Bool.false_or]
    cases hl : lookDir g d with
    | none =>
      rw [hl] at h1
      simp only [Option.map_none] at h1
      go_enter Tryd.func31, Tryd.ntmps31
      go_wp2
      go_ret
      exact ⟨rfl, rfl⟩
    | some x =>
      rw [hl] at h1
      simp only [Option.map_some] at h1
      go_enter Tryd.func31, Tryd.ntmps31
      go_wp2
      go_ret
      exact ⟨rfl, rfl⟩

def existsG (g : TreeG) (p : ByteArray) : Bool := isFolderG g p || (fileOf g p).isSome

set_option maxRecDepth 100000 in
theorem exists_any {w : World} {ptr : Nat → Nat} {g : TreeG} (h : TreeAt w ptr g) (tb to' : Nat) (hc : w.cell? ⟨tb, to', none⟩ = some (topV g)) (p : ByteArray) (hp : p.size < 4294967281) (hm : Max w) :
    Calls Tryd.prog 33 #[.pointer (some ⟨tb, to', none⟩), .string p] w fun e w' => e = .returned (.bool (existsG g p)) ∧ ∃ n, w' = w.drewN n := by
  have h1 := isFolder_any h tb to' hc p
  have h2 := file_any h tb to' hc p hp hm
  unfold existsG
  clear h hm hc
  cases hf : isFolderG g p with
  | true =>
    rw [hf] at h1
    rw [Bool.true_or]
    clear h2
    go_enter Tryd.func33, Tryd.ntmps33
    go_wp2_with (go_at_call 31; refine h1.mono ?_; rintro e w2 ⟨rfl, rfl⟩)
    go_ret
    exact ⟨rfl, 0, rfl⟩
  | false =>
    rw [hf] at h1
    rw [Bool.false_or]
    cases ho : fileOf g p with
    | none =>
      rw [ho] at h2
      simp only [fileV] at h2
      go_enter Tryd.func33, Tryd.ntmps33
      go_wp2_with (first | (go_at_call 31; refine h1.mono ?_; rintro e w2 ⟨rfl, rfl⟩) | (go_at_call 26; refine h2.mono ?_; rintro e w2 ⟨rfl, n, rfl⟩))
      go_ret
      exact ⟨rfl, n, rfl⟩
    | some i =>
      rw [ho] at h2
      simp only [fileV, ptrV] at h2
      go_enter Tryd.func33, Tryd.ntmps33
      go_wp2_with (first | (go_at_call 31; refine h1.mono ?_; rintro e w2 ⟨rfl, rfl⟩) | (go_at_call 26; refine h2.mono ?_; rintro e w2 ⟨rfl, n, rfl⟩))
      go_ret
      exact ⟨rfl, n, rfl⟩

end Go.Proofs.YtanbmlikfhcpoaaDoor.Disk

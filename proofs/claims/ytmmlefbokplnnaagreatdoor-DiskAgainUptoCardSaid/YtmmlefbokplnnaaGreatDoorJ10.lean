/-
  The texts DName, DPath, DTree, DPut, DPut2, joined. Own text.
-/
import Derived.Test.YtmmlefbokplnnaaGreatDoorJ04
import Derived.Shelf.Strings.Cut
import Derived.Ground.NamesProg
set_option linter.unusedVariables false
set_option linter.unusedSimpArgs false
namespace Go.Proofs
open Go.Shelf
def Tryz.cut145_ren : Go.Shelf.Ren := ⟨fun | 145 => 111 | 220 => 125 | 219 => 139 | 217 => 144 | 225 => 145 | 224 => 146 | 267 => 147 | 266 => 149 | 314 => 150 | n => n, fun | 9 => 9 | 4 => 4 | 59 => 150 | 3 => 3 | 5 => 5 | 46 => 149 | 146 => 183 | 51 => 162 | n => n, fun | 1 => 7 | n => n⟩
theorem Tryz.cut145 : Go.Proofs.Lays.n145 Tryz.prog Tryz.cut145_ren := {
  mixed := by kernel_rfl
  f145 := Tryz.func111.trans (congrArg some (by kernel_rfl))
  f217 := Tryz.func144.trans (congrArg some (by kernel_rfl))
  f219 := Tryz.func139.trans (congrArg some (by kernel_rfl))
  f220 := Tryz.func125.trans (congrArg some (by kernel_rfl))
  f224 := Tryz.func146.trans (congrArg some (by kernel_rfl))
  f225 := Tryz.func145.trans (congrArg some (by kernel_rfl))
  f266 := Tryz.func149.trans (congrArg some (by kernel_rfl))
  f267 := Tryz.func147.trans (congrArg some (by kernel_rfl))
  f314 := Tryz.func150.trans (congrArg some (by kernel_rfl))
  t3 := Tryz.underlying3
  a3 := Tryz.isAgg3
  z3 := Tryz.sizeOf3
  v3 := Tryz.zeroValue3
  t4 := Tryz.underlying4
  a4 := Tryz.isAgg4
  z4 := Tryz.sizeOf4
  v4 := Tryz.zeroValue4
  t5 := Tryz.underlying5
  a5 := Tryz.isAgg5
  z5 := Tryz.sizeOf5
  v5 := Tryz.zeroValue5
  t9 := Tryz.underlying9
  a9 := Tryz.isAgg9
  z9 := Tryz.sizeOf9
  v9 := Tryz.zeroValue9
  t46 := Tryz.underlying149
  a46 := Tryz.isAgg149
  z46 := Tryz.sizeOf149
  v46 := Tryz.zeroValue149
  t51 := Tryz.underlying162
  a51 := Tryz.isAgg162
  z51 := Tryz.sizeOf162
  v51 := Tryz.zeroValue162
  t59 := Tryz.underlying150
  a59 := Tryz.isAgg150
  z59 := Tryz.sizeOf150
  v59 := Tryz.zeroValue150
  t146 := Tryz.underlying183
  a146 := Tryz.isAgg183
  z146 := Tryz.sizeOf183
  v146 := Tryz.zeroValue183
  g1 := by kernel_rfl }
end Go.Proofs
namespace Go.Proofs.YtmmlefbokplnnaaGreatDoor.Disk
open Go.RowKit Go Go.Proofs.YtmmlefbokplnnaaGreatDoor.Base Go.Shelf

theorem ret_bool {a b : Bool} (h : a = b) : Ending.returned (.bool a) = .returned (.bool b) := by rw [h]

theorem nameByte_any (b : Nat) (hb : b < 256) (w : World) : Calls Tryz.prog 86 #[.int .u8 (b : Int)] w fun e w' => e = .returned (.bool (okByte b)) ∧ w = w' := by
  by_cases h1 : (97 : Int) ≤ b <;> by_cases h2 : (b : Int) ≤ 122 <;> by_cases h3 : (48 : Int) ≤ b <;> by_cases h4 : (b : Int) ≤ 57 <;> by_cases h5 : (b : Int) = 46 <;> by_cases h6 : (b : Int) = 45
  all_goals first
    | (exfalso; omega)
    | (go_enter Tryz.func86, Tryz.ntmps86
       go_wp2
       go_ret
       refine ⟨ret_bool ?_, rfl⟩
       rw [Bool.eq_iff_iff]
       unfold okByte
       simp
       try omega)

theorem isName_any (s : ByteArray) (hs : s.size < 4611686018427387904) (w : World) : Calls Tryz.prog 56 #[.string s] w fun e w' => e = .returned (.bool (isName s)) ∧ w = w' := by
  by_cases h1 : s.size < 1
  · have e : isName s = false := by unfold isName; simp; omega
    rw [e]
    have h1i : (s.size : Int) < 1 := by omega
    go_enter Tryz.func56, Tryz.ntmps56
    go_wp2
    go_ret
    exact ⟨rfl, rfl⟩
  by_cases h2 : 32 < s.size
  · have e : isName s = false := by unfold isName; simp; omega
    rw [e]
    have h1i : ¬ (s.size : Int) < 1 := by omega
    have h2i : (32 : Int) < (s.size : Int) := by omega
    go_enter Tryz.func56, Tryz.ntmps56
    go_wp2
    go_ret
    exact ⟨rfl, rfl⟩
  have h1i : ¬ (s.size : Int) < 1 := by omega
  have h2i : ¬ (32 : Int) < (s.size : Int) := by omega
  have e : isName s = (nums s).all okByte := by unfold isName; simp; omega
  rw [e]
  obtain ⟨R, hR⟩ : ∃ R, (nums s).all okByte = R := ⟨_, rfl⟩
  rw [hR]
  have HR := Lib.hid hR
  clear e hR
  go_enter Tryz.func56, Tryz.ntmps56
  go_wp2_with fail
  go_loopg [14] s.size (fun r i wr => ∃ (j : Nat), Hid (j + r = s.size) ∧ j ≤ s.size ∧ i = .int .i64 (j : Int) ∧ Hid (∀ q, q < j → okByte (at8 s q) = true) ∧ wr = w)
  case atStart => exact ⟨0, Nat.zero_add _, Nat.zero_le _, rfl, fun q hq => absurd hq (Nat.not_lt_zero _), rfl⟩
  case round =>
    obtain ⟨j, hE, hj, rfl, HA, rfl⟩ := hrel
    by_cases hlt : j < s.size
    · have hn := nameByte_any (at8 s j) (at8_lt s j) wr
      rw [at8_eq s j hlt] at hn
      cases hok : okByte (at8 s j)
      · rw [← at8_eq s j hlt, hok] at hn
        have hf : R = false := by
          rw [← HR.out, List.all_eq_false]
          exact ⟨at8 s j, by unfold at8; rw [List.getD, nums_at s j hlt]; exact List.mem_of_getElem? (nums_at s j hlt), by simp [hok]⟩
        subst hf
        rw [at8_eq s j hlt] at hn
        clear hok
        go_wp2_with (go_at_call 86; refine hn.mono ?_; rintro e w2 ⟨rfl, rfl⟩)
        go_ret
        exact ⟨rfl, rfl⟩
      · rw [← at8_eq s j hlt, hok] at hn
        have HO := Lib.hid hok
        rw [at8_eq s j hlt] at hn
        clear hok
        go_wp2_with (go_at_call 86; refine hn.mono ?_; rintro e w2 ⟨rfl, rfl⟩)
        go_roundg (s.size - (j + 1))
        case measure => have := hE.out; omega
        case rel =>
          refine ⟨j + 1, by show _ = _; omega, by omega, by go_num, ?_, rfl⟩
          intro q hq
          by_cases hqj : q = j
          · subst hqj; exact HO.out
          · exact HA.out q (by omega)
    · obtain rfl : j = s.size := by omega
      have ht : R = true := by
        rw [← HR.out, List.all_eq_true]
        intro x hx
        obtain ⟨q, hq⟩ := List.getElem?_of_mem hx
        have hql : q < s.size := by
          rcases Nat.lt_or_ge q s.size with h | h
          · exact h
          · rw [List.getElem?_eq_none (by rw [nums_length]; exact h)] at hq; cases hq
        have := HA.out q hql
        unfold at8 at this
        rw [List.getD, hq] at this
        exact this
      subst ht
      clear hlt hE
      go_wp2
      go_ret
      exact ⟨rfl, rfl⟩

end Go.Proofs.YtmmlefbokplnnaaGreatDoor.Disk

namespace Go.Proofs.YtmmlefbokplnnaaGreatDoor.Disk
open Go.RowKit Go Go.Proofs.YtmmlefbokplnnaaGreatDoor.Base Go.Shelf

theorem index_slash (l : List UInt8) : Lib.index l [47] = if (l.map UInt8.toNat).findIdx (· == 47) < l.length then (((l.map UInt8.toNat).findIdx (· == 47) : Nat) : Int) else -1 := by
  induction l with
  | nil => rfl
  | cons b r ih =>
    unfold Lib.index
    rw [ih, List.map_cons, List.findIdx_cons]
    by_cases h : b = 47
    · subst h
      simp [List.isPrefixOf]
    · have h1 : (b.toNat == 47) = false := by
        rw [beq_eq_false_iff_ne]
        intro e
        exact h (UInt8.toNat_inj.1 e)
      have h2 : ([47] : List UInt8).isPrefixOf (b :: r) = false := by
        simp [List.isPrefixOf]
        exact fun e => h e.symm
      rw [h1, h2]
      simp only [Bool.false_eq_true, if_false, cond_false, List.length_cons]
      generalize (List.map UInt8.toNat r).findIdx (· == 47) = k
      by_cases h3 : k < r.length
      · have e1 : (if k < r.length then ((k : Nat) : Int) else -1) = (k : Int) := if_pos h3
        have e2 : (if k + 1 < r.length + 1 then ((k + 1 : Nat) : Int) else -1) = ((k + 1 : Nat) : Int) := if_pos (by omega)
        rw [e1, e2]
        have : (((k : Nat) : Int) == -1) = false := by rw [beq_eq_false_iff_ne]; omega
        rw [this]
        simp
      · have e1 : (if k < r.length then ((k : Nat) : Int) else -1) = -1 := if_neg h3
        have e2 : (if k + 1 < r.length + 1 then ((k + 1 : Nat) : Int) else -1) = -1 := if_neg (by omega)
        rw [e1, e2]
        rfl

/-- a path without a slash, or with one -/
theorem cut_slash (s : ByteArray) : Lib.cut s.data.toList [47] = if sl s < s.size then ((s.extract 0 (sl s)).data.toList, (s.extract (sl s + 1) s.size).data.toList, true) else (s.data.toList, [], false) := by
  have hl : s.data.toList.length = s.size := by simp
  unfold Lib.cut
  rw [index_slash]
  change (if 0 ≤ (if sl s < s.data.toList.length then ((sl s : Nat) : Int) else -1) then _ else _) = _
  rw [hl]
  by_cases h : sl s < s.size
  · rw [if_pos h, if_pos h, if_pos (by omega)]
    change (List.take ((if sl s < s.data.toList.length then ((sl s : Nat) : Int) else -1)).toNat _, List.drop ((if sl s < s.data.toList.length then ((sl s : Nat) : Int) else -1).toNat + 1) _, true) = _
    rw [hl, if_pos h, Int.toNat_natCast]
    congr 1
    · simp [ByteArray.data_extract]
    · congr 1
      simp [ByteArray.data_extract]
      rw [List.take_of_length_le]
      simp
  · rw [if_neg h, if_neg h, if_neg (by omega)]

def gMax : Nat := 7
/-- what the library's text looks at -/
def Max (w : World) : Prop := ∃ m, w.cell? ⟨gMax, 0, none⟩ = some (.int .i64 m)

theorem bytes_eta (s : ByteArray) : (⟨s.data.toList.toArray⟩ : ByteArray) = s := by cases s; simp
theorem bytes_nil : (⟨([] : List UInt8).toArray⟩ : ByteArray) = ByteArray.empty := rfl

theorem cut_in (s : ByteArray) (h : sl s < s.size) (hs : s.size < 4294967281) (w : World) (hm : Max w) : Calls Tryz.prog 111 #[.string s, .string ⟨#[47]⟩] w fun e w' =>
    e = .returned (.tuple #[.string (s.extract 0 (sl s)), .string (s.extract (sl s + 1) s.size), .bool true]) ∧ ∃ n, w' = w.drewN n := by
  obtain ⟨m, hm⟩ := hm
  have hc := Any.strings_Cut Tryz.cut145 s ⟨#[47]⟩ m w hs hm
  change Calls Tryz.prog 111 #[.string s, .string ⟨#[47]⟩] w _ at hc
  have e : Lib.cut s.data.toList (⟨#[47]⟩ : ByteArray).data.toList = _ := cut_slash s
  rw [if_pos h] at e
  refine hc.mono fun e' w' ⟨h1, h2⟩ => ⟨?_, h2⟩
  rw [h1, e, bytes_eta, bytes_eta]

theorem cut_out (s : ByteArray) (h : ¬ sl s < s.size) (hs : s.size < 4294967281) (w : World) (hm : Max w) : Calls Tryz.prog 111 #[.string s, .string ⟨#[47]⟩] w fun e w' =>
    e = .returned (.tuple #[.string s, .string ⟨#[]⟩, .bool false]) ∧ ∃ n, w' = w.drewN n := by
  obtain ⟨m, hm⟩ := hm
  have hc := Any.strings_Cut Tryz.cut145 s ⟨#[47]⟩ m w hs hm
  change Calls Tryz.prog 111 #[.string s, .string ⟨#[47]⟩] w _ at hc
  have e : Lib.cut s.data.toList (⟨#[47]⟩ : ByteArray).data.toList = _ := cut_slash s
  rw [if_neg h] at e
  refine hc.mono fun e' w' ⟨h1, h2⟩ => ⟨?_, h2⟩
  rw [h1, e, bytes_eta]

theorem split_any (s : ByteArray) (hs : s.size < 4294967281) (w : World) (hm : Max w) : Calls Tryz.prog 83 #[.string s] w fun e w' =>
    e = .returned (.tuple #[.string (dirOf s), .string (baseOf s)]) ∧ ∃ n, w' = w.drewN n := by
  unfold dirOf baseOf
  by_cases h : sl s < s.size
  · have hc := cut_in s h hs w hm
    rw [if_pos h, if_pos h]
    clear hm h hs
    generalize s.extract 0 (sl s) = d at hc ⊢
    generalize s.extract (sl s + 1) s.size = b at hc ⊢
    go_enter Tryz.func83, Tryz.ntmps83
    go_wp2_with (go_at_call 111; refine hc.mono ?_; rintro e w2 ⟨rfl, n, rfl⟩)
    go_ret2
    exact ⟨rfl, n, rfl⟩
  · have hc := cut_out s h hs w hm
    rw [if_neg h, if_neg h]
    clear hm h hs
    go_enter Tryz.func83, Tryz.ntmps83
    go_wp2_with (go_at_call 111; refine hc.mono ?_; rintro e w2 ⟨rfl, n, rfl⟩)
    go_ret2
    exact ⟨rfl, n, rfl⟩

theorem folderOf_any (s : ByteArray) (hs : s.size < 4294967281) (w : World) (hm : Max w) : Calls Tryz.prog 92 #[.string s] w fun e w' =>
    e = .returned (.string (dirOf s)) ∧ ∃ n, w' = w.drewN n := by
  have hc := split_any s hs w hm
  clear hm hs
  generalize dirOf s = d at hc ⊢
  generalize baseOf s = b at hc ⊢
  go_enter Tryz.func92, Tryz.ntmps92
  go_wp2_with (go_at_call 83; refine hc.mono ?_; rintro e w2 ⟨rfl, n, rfl⟩)
  go_ret
  exact ⟨rfl, n, rfl⟩

theorem isPath_any (s : ByteArray) (hs : s.size < 4294967281) (w : World) (hm : Max w) : Calls Tryz.prog 91 #[.string s] w fun e w' =>
    e = .returned (.bool (isPath s)) ∧ ∃ n, w' = w.drewN n := by
  unfold isPath
  by_cases h : sl s < s.size
  · have hc := cut_in s h hs w hm
    have h1 : ∀ w, Calls Tryz.prog 56 #[.string (s.extract 0 (sl s))] w fun e w' => e = .returned (.bool (isName (s.extract 0 (sl s)))) ∧ w = w' := fun w => isName_any _ (by rw [ByteArray.size_extract]; omega) w
    have h2 : ∀ w, Calls Tryz.prog 56 #[.string (s.extract (sl s + 1) s.size)] w fun e w' => e = .returned (.bool (isName (s.extract (sl s + 1) s.size))) ∧ w = w' := fun w => isName_any _ (by rw [ByteArray.size_extract]; omega) w
    rw [if_pos h]
    clear hm h hs
    generalize s.extract 0 (sl s) = d at hc h1 ⊢
    generalize s.extract (sl s + 1) s.size = b at hc h2 ⊢
    generalize isName d = x at h1 ⊢
    generalize isName b = y at h2 ⊢
    have H1 := Lib.hid h1
    have H2 := Lib.hid h2
    clear h1 h2
    cases x
    · go_enter Tryz.func91, Tryz.ntmps91
      go_wp2_with (first | (go_at_call 111; refine hc.mono ?_; rintro e w2 ⟨rfl, n, rfl⟩) | (go_at_call 56; ((with_reducible refine (H1.out _).mono ?_); rintro e w2 ⟨rfl, rfl⟩)))
      go_ret
      exact ⟨rfl, n, rfl⟩
    · go_enter Tryz.func91, Tryz.ntmps91
      go_wp2_with (first | (go_at_call 111; refine hc.mono ?_; rintro e w2 ⟨rfl, n, rfl⟩) | (go_at_call 56; ((with_reducible refine (H1.out _).mono ?_); rintro e w2 ⟨rfl, rfl⟩)) | (go_at_call 56; ((with_reducible refine (H2.out _).mono ?_); rintro e w2 ⟨rfl, rfl⟩)))
      go_ret
      exact ⟨rfl, n, rfl⟩
  · have hc := cut_out s h hs w hm
    have h1 : ∀ w, Calls Tryz.prog 56 #[.string s] w fun e w' => e = .returned (.bool (isName s)) ∧ w = w' := fun w => isName_any _ (by omega) w
    rw [if_neg h]
    clear hm h hs
    generalize isName s = x at h1 ⊢
    have H1 := Lib.hid h1
    clear h1
    cases x
    · go_enter Tryz.func91, Tryz.ntmps91
      go_wp2_with (first | (go_at_call 111; refine hc.mono ?_; rintro e w2 ⟨rfl, n, rfl⟩) | (go_at_call 56; ((with_reducible refine (H1.out _).mono ?_); rintro e w2 ⟨rfl, rfl⟩)))
      go_ret
      exact ⟨rfl, n, rfl⟩
    · go_enter Tryz.func91, Tryz.ntmps91
      go_wp2_with (first | (go_at_call 111; refine hc.mono ?_; rintro e w2 ⟨rfl, n, rfl⟩) | (go_at_call 56; ((with_reducible refine (H1.out _).mono ?_); rintro e w2 ⟨rfl, rfl⟩)))
      go_ret
      exact ⟨rfl, n, rfl⟩

end Go.Proofs.YtmmlefbokplnnaaGreatDoor.Disk

namespace Go.Proofs.YtmmlefbokplnnaaGreatDoor.Disk
open Go.RowKit Go Go.Proofs.YtmmlefbokplnnaaGreatDoor.Base Go.Proofs.YtmmlefbokplnnaaGreatDoor.Map

/-- a directory: its name, the block of its map, its files' numbers -/
structure DirG where
  name : ByteArray
  blk : Nat
  files : List (ByteArray × Nat)

/-- the tree: no map yet; or the block of the map of directories, and these -/
structure TreeG where
  fm : Option Nat
  ds : List DirG

def dirEnts (ds : List DirG) : List (ByteArray × Value) := ds.map fun x => (x.name, .map (some x.blk))
def ptrV (ptr : Nat → Nat) (i : Nat) : Value := .pointer (some ⟨ptr i, 0, none⟩)
def fileEnts (ptr : Nat → Nat) (fs : List (ByteArray × Nat)) : List (ByteArray × Value) := fs.map fun p => (p.1, ptrV ptr p.2)

def TreeG.blocks (g : TreeG) : List Nat := g.fm.toList ++ g.ds.map (·.blk)

structure TreeAt (w : World) (ptr : Nat → Nat) (g : TreeG) : Prop where
  none : g.fm = none → g.ds = []
  top : ∀ fm, g.fm = some fm → MapIs w fm (dirEnts g.ds)
  dirs : ∀ x ∈ g.ds, MapIs w x.blk (fileEnts ptr x.files)
  apart : g.blocks.Nodup

def lookDir (g : TreeG) (d : ByteArray) : Option DirG := g.ds.find? fun x => x.name = d
def lookFile (g : TreeG) (d n : ByteArray) : Option Nat := (lookDir g d).bind fun x => Map.get x.files n
def fileOf (g : TreeG) (p : ByteArray) : Option Nat := lookFile g (dirOf p) (baseOf p)
def fileV (ptr : Nat → Nat) : Option Nat → Value
  | none => .pointer none
  | some i => ptrV ptr i
def isFolderG (g : TreeG) (d : ByteArray) : Bool := decide (d.size = 0) || (lookDir g d).isSome

theorem get_map {α : Type} {β : Type} (l : List (ByteArray × α)) (f : α → β) (k : ByteArray) : Map.get (l.map fun p => (p.1, f p.2)) k = (Map.get l k).map f := by
  induction l with
  | nil => rfl
  | cons p r ih =>
    simp only [List.map_cons, Map.get]
    split
    · rfl
    · exact ih

theorem get_dirs (ds : List DirG) (d : ByteArray) : Map.get (dirEnts ds) d = (ds.find? fun x => x.name = d).map fun x => Value.map (some x.blk) := by
  unfold dirEnts
  induction ds with
  | nil => rfl
  | cons x r ih =>
    simp only [List.map_cons, Map.get]
    by_cases h : x.name = d
    · simp [h]
    · rw [if_neg h, ih, List.find?_cons_of_neg (by simpa using h)]

def tFold : TypeId := 58
def tFiles : TypeId := 128

theorem zero_files (w : World) : (zeroValue 128).run Tryz.prog w = .ok (.map none) w := by kernel_rfl
theorem zero_file (w : World) : (zeroValue 88).run Tryz.prog w = .ok (.pointer none) w := by kernel_rfl

/-- the value of the tree's field -/
def topV (g : TreeG) : Value := .map g.fm

/-- the look-up of a directory -/
def dirV (g : TreeG) (d : ByteArray) : Value := .map ((lookDir g d).map (·.blk))

theorem look_dir {w : World} {ptr : Nat → Nat} {g : TreeG} (h : TreeAt w ptr g) (d : ByteArray) : (Instr.lookup 58 (topV g) (.string d) false).run Tryz.prog w = .ok (dirV g d) w := by
  unfold topV dirV lookDir
  cases hg : g.fm with
  | none =>
    rw [h.none hg]
    exact lookup_nil Tryz.underlying58 Tryz.underlying9 zero_files d w
  | some fm =>
    rw [(h.top fm hg).lookup Tryz.underlying58 Tryz.underlying9 zero_files d, get_dirs]
    cases g.ds.find? fun x => x.name = d <;> rfl

theorem look_file {w : World} {ptr : Nat → Nat} {g : TreeG} (h : TreeAt w ptr g) (d n : ByteArray) : (Instr.lookup 128 (dirV g d) (.string n) false).run Tryz.prog w = .ok (fileV ptr (lookFile g d n)) w := by
  unfold dirV lookFile
  cases hl : lookDir g d with
  | none => exact lookup_nil Tryz.underlying128 Tryz.underlying9 zero_file n w
  | some x =>
    have hx : x ∈ g.ds := List.mem_of_find?_eq_some hl
    show (Instr.lookup _ (.map (some x.blk)) _ false).run _ _ = _
    rw [(h.dirs x hx).lookup Tryz.underlying128 Tryz.underlying9 zero_file n]
    unfold fileEnts
    rw [get_map]
    cases hgf : Map.get x.files n <;> simp [hgf, fileV]

theorem TreeAt.of_heap {w w' : World} {ptr : Nat → Nat} {g : TreeG} (h : TreeAt w ptr g) (hh : ∀ b ∈ g.blocks, w'.heap[b]? = w.heap[b]?) : TreeAt w' ptr g :=
  ⟨h.none, fun fm hf => (h.top fm hf).of_block (hh fm (by unfold TreeG.blocks; simp [hf])), fun x hx => (h.dirs x hx).of_block (hh _ (by unfold TreeG.blocks; simp; exact .inr ⟨x, hx, rfl⟩)), h.apart⟩

theorem TreeAt.drew {w : World} {ptr : Nat → Nat} {g : TreeG} (h : TreeAt w ptr g) (n : Nat) : TreeAt (w.drewN n) ptr g := h.of_heap fun _ _ => rfl

theorem TreeAt.lt {w : World} {ptr : Nat → Nat} {g : TreeG} (h : TreeAt w ptr g) : ∀ b ∈ g.blocks, b < w.heap.size := by
  intro b hb
  unfold TreeG.blocks at hb
  rcases List.mem_append.1 hb with hb | hb
  · cases hf : g.fm with
    | none => rw [hf] at hb; simp at hb
    | some fm => rw [hf] at hb; simp at hb; subst hb; exact (h.top _ hf).lt
  · obtain ⟨x, hx, rfl⟩ := List.mem_map.1 hb
    exact (h.dirs x hx).lt

theorem file_any {w : World} {ptr : Nat → Nat} {g : TreeG} (h : TreeAt w ptr g) (tb to' : Nat) (hc : w.cell? ⟨tb, to', none⟩ = some (topV g)) (p : ByteArray) (hp : p.size < 4294967281) (hm : Max w) :
    Calls Tryz.prog 48 #[.pointer (some ⟨tb, to', none⟩), .string p] w fun e w' => e = .returned (fileV ptr (fileOf g p)) ∧ ∃ n, w' = w.drewN n := by
  have hs := split_any p hp w hm
  have h1 : ∀ n, (Instr.lookup 58 (topV g) (.string (dirOf p)) false).run Tryz.prog (w.drewN n) = .ok (dirV g (dirOf p)) (w.drewN n) := fun n => look_dir (h.drew n) _
  have h2 : ∀ n, (Instr.lookup 128 (dirV g (dirOf p)) (.string (baseOf p)) false).run Tryz.prog (w.drewN n) = .ok (fileV ptr (fileOf g p)) (w.drewN n) := fun n => look_file (h.drew n) _ _
  clear h hp hm
  generalize fileV ptr (fileOf g p) = fv at h2 ⊢
  generalize topV g = tv at hc h1
  generalize dirV g (dirOf p) = dv at h1 h2
  generalize dirOf p = d at h1 hs
  generalize baseOf p = b at h2 hs
  go_enter Tryz.func48, Tryz.ntmps48
  go_wp2_with (go_at_call 83; refine hs.mono ?_; rintro e w2 ⟨rfl, n, rfl⟩)
  go_ret
  exact ⟨rfl, n, rfl⟩

theorem toList_data (d : ByteArray) : d.toList = d.data.toList := by
  have h : ∀ n (i : Nat) (r : List UInt8), d.size - i = n → ByteArray.toList.loop d i r = r.reverse ++ d.data.toList.drop i := by
    intro n
    induction n with
    | zero =>
      intro i r hi
      rw [ByteArray.toList.loop, if_neg (by omega), List.drop_of_length_le (by simp; omega), List.append_nil]
    | succ n ih =>
      intro i r hi
      have hlt : i < d.size := by omega
      rw [ByteArray.toList.loop, if_pos hlt, ih (i + 1) _ (by omega)]
      have hl : i < d.data.toList.length := by simpa using hlt
      rw [List.drop_eq_getElem_cons hl, List.reverse_cons, List.append_assoc]
      congr 2
      simp only [ByteArray.get!]
      rw [getElem!_pos d.data i (by simpa using hlt)]
      simp
  have := h d.size 0 [] rfl
  simpa [ByteArray.toList] using this

theorem isEmpty_iff (d : ByteArray) : d.toList.isEmpty = decide (d.size = 0) := by
  rw [toList_data]
  rw [Bool.eq_iff_iff, decide_eq_true_eq, List.isEmpty_iff]
  constructor
  · intro h
    have := congrArg List.length h
    simpa using this
  · intro h
    apply List.eq_nil_of_length_eq_zero
    simpa using h

set_option maxRecDepth 100000 in
theorem isFolder_any {w : World} {ptr : Nat → Nat} {g : TreeG} (h : TreeAt w ptr g) (tb to' : Nat) (hc : w.cell? ⟨tb, to', none⟩ = some (topV g)) (d : ByteArray) :
    Calls Tryz.prog 57 #[.pointer (some ⟨tb, to', none⟩), .string d] w fun e w' => e = .returned (.bool (isFolderG g d)) ∧ w = w' := by
  have h0 := isEmpty_iff d
  have h1 := look_dir h d
  have hq := fun (r : Option Nat) (w : World) => run_neq_map_nil (P := Tryz.prog) w 128 _ _ r Tryz.underlying128
  unfold isFolderG
  unfold dirV at h1
  clear h
  generalize topV g = tv at hc h1
  by_cases hd : d.size = 0
  · rw [decide_eq_true hd] at h0 ⊢
    rw [Bool.true_or]
    go_enter Tryz.func57, Tryz.ntmps57
    go_wp2
    go_ret
    exact ⟨rfl, rfl⟩
  · rw [decide_eq_false hd] at h0 ⊢
    rw [Bool.false_or]
    cases hl : lookDir g d with
    | none =>
      rw [hl] at h1
      simp only [Option.map_none] at h1
      go_enter Tryz.func57, Tryz.ntmps57
      go_wp2
      go_ret
      exact ⟨rfl, rfl⟩
    | some x =>
      rw [hl] at h1
      simp only [Option.map_some] at h1
      go_enter Tryz.func57, Tryz.ntmps57
      go_wp2
      go_ret
      exact ⟨rfl, rfl⟩

def existsG (g : TreeG) (p : ByteArray) : Bool := isFolderG g p || (fileOf g p).isSome

set_option maxRecDepth 100000 in
theorem exists_any {w : World} {ptr : Nat → Nat} {g : TreeG} (h : TreeAt w ptr g) (tb to' : Nat) (hc : w.cell? ⟨tb, to', none⟩ = some (topV g)) (p : ByteArray) (hp : p.size < 4294967281) (hm : Max w) :
    Calls Tryz.prog 93 #[.pointer (some ⟨tb, to', none⟩), .string p] w fun e w' => e = .returned (.bool (existsG g p)) ∧ ∃ n, w' = w.drewN n := by
  have h1 := isFolder_any h tb to' hc p
  have h2 := file_any h tb to' hc p hp hm
  unfold existsG
  clear h hm hc
  cases hf : isFolderG g p with
  | true =>
    rw [hf] at h1
    rw [Bool.true_or]
    clear h2
    go_enter Tryz.func93, Tryz.ntmps93
    go_wp2_with (go_at_call 57; refine h1.mono ?_; rintro e w2 ⟨rfl, rfl⟩)
    go_ret
    exact ⟨rfl, 0, rfl⟩
  | false =>
    rw [hf] at h1
    rw [Bool.false_or]
    cases ho : fileOf g p with
    | none =>
      rw [ho] at h2
      simp only [fileV] at h2
      go_enter Tryz.func93, Tryz.ntmps93
      go_wp2_with (first | (go_at_call 57; refine h1.mono ?_; rintro e w2 ⟨rfl, rfl⟩) | (go_at_call 48; refine h2.mono ?_; rintro e w2 ⟨rfl, n, rfl⟩))
      go_ret
      exact ⟨rfl, n, rfl⟩
    | some i =>
      rw [ho] at h2
      simp only [fileV, ptrV] at h2
      go_enter Tryz.func93, Tryz.ntmps93
      go_wp2_with (first | (go_at_call 57; refine h1.mono ?_; rintro e w2 ⟨rfl, rfl⟩) | (go_at_call 48; refine h2.mono ?_; rintro e w2 ⟨rfl, n, rfl⟩))
      go_ret
      exact ⟨rfl, n, rfl⟩

end Go.Proofs.YtmmlefbokplnnaaGreatDoor.Disk

namespace Go.Proofs.YtmmlefbokplnnaaGreatDoor.Disk
open Go.RowKit Go Go.Proofs.YtmmlefbokplnnaaGreatDoor.Base Go.Proofs.YtmmlefbokplnnaaGreatDoor.Map

/-- the struct in which the tree lies -/
structure Holds (w : World) (tb to' : Nat) (cs : Array Value) (e : TypeId) (g : TreeG) : Prop where
  block : w.heap[tb]? = some (.cells cs e (0, 0))
  at' : cs[to']? = some (topV g)

theorem Holds.cell {w : World} {tb to' : Nat} {cs : Array Value} {e : TypeId} {g : TreeG} (h : Holds w tb to' cs e g) : w.cell? ⟨tb, to', none⟩ = some (topV g) := by
  rw [cell_of_row w tb to' cs e (0, 0) h.block]; exact h.at'
theorem Holds.fro {w : World} {tb to' : Nat} {cs : Array Value} {e : TypeId} {g : TreeG} (h : Holds w tb to' cs e g) : w.frozen? ⟨tb, to', none⟩ = false := by
  simp [World.frozen?, h.block]
theorem Holds.lt {w : World} {tb to' : Nat} {cs : Array Value} {e : TypeId} {g : TreeG} (h : Holds w tb to' cs e g) : tb < w.heap.size := (Array.getElem?_eq_some_iff.1 h.block).1
theorem Holds.notIn {w : World} {tb to' : Nat} {cs : Array Value} {e : TypeId} {g : TreeG} {ptr : Nat → Nat} (h : Holds w tb to' cs e g) (ht : TreeAt w ptr g) : tb ∉ g.blocks := by
  intro hb
  unfold TreeG.blocks at hb
  rcases List.mem_append.1 hb with hb | hb
  · cases hf : g.fm with
    | none => rw [hf] at hb; simp at hb
    | some fm =>
      rw [hf] at hb; simp at hb; subst hb
      obtain ⟨es, cl, h1, _⟩ := ht.top _ hf
      rw [h.block] at h1; cases h1
  · obtain ⟨x, hx, rfl⟩ := List.mem_map.1 hb
    obtain ⟨es, cl, h1, _⟩ := ht.dirs x hx
    rw [h.block] at h1; cases h1

theorem set_same {cs : Array Value} {i : Nat} {v : Value} (h : cs[i]? = some v) : cs.setIfInBounds i v = cs := by
  apply Array.ext'
  rw [Array.toList_setIfInBounds]
  apply List.ext_getElem?
  intro j
  rw [List.getElem?_set]
  by_cases hij : i = j
  · subst hij
    have h2 : cs.toList[i]? = some v := by simpa using h
    rw [if_pos rfl, h2]
    rw [if_pos]
    rcases Nat.lt_or_ge i cs.toList.length with h' | h'
    · exact h'
    · rw [List.getElem?_eq_none h'] at h2; cases h2
  · rw [if_neg hij]

theorem dirEnts_append (a b : List DirG) : dirEnts (a ++ b) = dirEnts a ++ dirEnts b := by simp [dirEnts]
theorem keys_dirEnts (ds : List DirG) : keys (dirEnts ds) = ds.map (·.name) := by simp [keys, dirEnts]

theorem notKey_of {g : TreeG} {d : ByteArray} (h : lookDir g d = none) : d ∉ keys (dirEnts g.ds) := by
  rw [keys_dirEnts]
  intro hm
  obtain ⟨x, hx, he⟩ := List.mem_map.1 hm
  have := List.find?_eq_none.1 h x hx
  simp [he] at this

/-- what a call that writes the tree leaves -/
structure Wrote (w w' : World) (ptr : Nat → Nat) (tb to' : Nat) (cs : Array Value) (e : TypeId) (g g' : TreeG) : Prop where
  tree : TreeAt w' ptr g'
  holds : w'.heap[tb]? = some (.cells (cs.setIfInBounds to' (topV g')) e (0, 0))
  turn : Turn (fun k => k = tb ∨ k ∈ g.blocks) w w'
  new : ∀ b ∈ g'.blocks, b ∈ g.blocks ∨ w.heap.size ≤ b

theorem Wrote.out {w w' : World} {ptr : Nat → Nat} {tb to' : Nat} {cs : Array Value} {e : TypeId} {g g' : TreeG} (h : Wrote w w' ptr tb to' cs e g g') (hl : to' < cs.size) : Holds w' tb to' (cs.setIfInBounds to' (topV g')) e g' :=
  ⟨h.holds, by simp [hl]⟩

theorem set_lt {cs : Array Value} {i : Nat} {v : Value} (h : cs[i]? = some v) : i < cs.size := (Array.getElem?_eq_some_iff.1 h).1

set_option maxRecDepth 100000 in
set_option maxHeartbeats 1000000 in
theorem addFolder_any {w : World} {ptr : Nat → Nat} {g : TreeG} (h : TreeAt w ptr g) (tb to' : Nat) (cs : Array Value) (e : TypeId) (hh : Holds w tb to' cs e g) (d : ByteArray) (hd : lookDir g d = none) :
    Calls Tryz.prog 100 #[.pointer (some ⟨tb, to', none⟩), .string d] w fun r w' => r = .returned (.tuple #[]) ∧ ∃ fm b, Wrote w w' ptr tb to' cs e g ⟨some fm, g.ds ++ [⟨d, b, []⟩]⟩ := by
  have hq := fun (r : Option Nat) (w : World) => run_eql_map_nil (P := Tryz.prog) w 58 _ _ r Tryz.underlying58
  have hmm := @run_makeMap Tryz.prog
  have hc := hh.cell
  have hf := hh.fro
  have hnk := notKey_of hd
  have hni := hh.notIn h
  have htl := hh.lt
  have hsl := set_lt hh.at'
  have HH := Lib.hid hh
  have HT := Lib.hid h
  cases hg : g.fm with
  | none =>
    have hds := h.none hg
    unfold topV at hc
    rw [hg] at hc
    have es : (w.setCell ⟨tb, to', none⟩ (.map (some w.heap.size))).heap.size = w.heap.size := by simp [World.setCell]
    have hM1 : MapIs (((w.setCell ⟨tb, to', none⟩ (.map (some w.heap.size))).alloc (.map #[] 0)).alloc (.map #[] 0)) w.heap.size [] := by
      have := mapIs_new (w.setCell ⟨tb, to', none⟩ (.map (some w.heap.size)))
      rw [es] at this
      exact this.of_block (heap_alloc_old _ _ (by simp [World.setCell]))
    have HM1 := Lib.hid hM1
    have Hhh := Lib.hid hh
    have Hds := Lib.hid hds
    have Hg := Lib.hid hg
    clear h hh hd hnk hM1 hds hg
    go_enter Tryz.func100, Tryz.ntmps100
    go_wp2_with (at_mapUpdate; refine Map.wp_put _ rfl _ _ _ rfl Tryz.underlying58 Tryz.underlying9 rfl HM1.out _ _ rfl rfl ?_; intro w3 hm3 hg3 hs3)
    go_end0
    have hsz : (((w.setCell ⟨tb, to', none⟩ (.map (some w.heap.size))).alloc (.map #[] 0)).alloc (.map #[] 0)).heap.size = w.heap.size + 2 := by simp [World.setCell]
    have hb1 : w3.heap[w.heap.size + 1]? = some (.map #[] 0) := by
      rw [hg3.block _ (by rw [hsz]; omega) (fun h => by injection h with h; omega)]
      have := heap_alloc_new ((w.setCell ⟨tb, to', none⟩ (.map (some w.heap.size))).alloc (.map #[] 0)) (.map #[] 0)
      simpa [World.setCell] using this
    refine ⟨rfl, w.heap.size, w.heap.size + 1, ?_, ?_, ?_, ?_⟩
    · refine ⟨fun hh => (by cases hh), fun fm hfm => ?_, fun x hx => ?_, ?_⟩
      · injection hfm with hfm
        subst hfm
        rw [Hds.out]
        simp only [List.nil_append, dirEnts, List.map_cons, List.map_nil]
        have hm3' : MapIs w3 w.heap.size (put [] d (.map (some (w.heap.size + 1)))) := hm3
        simpa [put] using hm3'
      · rw [Hds.out] at hx
        simp at hx
        subst hx
        exact ⟨#[], 0, hb1, MapKept.stamped_empty 0, rfl⟩
      · rw [Hds.out]
        simp [TreeG.blocks]
    · rw [hg3.block tb (by rw [hsz]; omega) (fun h => by injection h with h; omega)]
      rw [heap_alloc_old _ _ (by simp [World.setCell]; omega), heap_alloc_old _ _ (by rw [es]; exact htl)]
      exact heap_setCell_same _ tb to' cs e _ Hhh.out.block
    · have t1 : Turn (fun k => k = tb ∨ k ∈ g.blocks) w (((w.setCell ⟨tb, to', none⟩ (.map (some w.heap.size))).alloc (.map #[] 0)).alloc (.map #[] 0)) := (((Turn.refl _ w).set _ _ (fun _ => .inl rfl)).alloc _).alloc _
      exact t1.trans (S' := fun k => k = w.heap.size) (Turn.of_grown hg3 (fun k hk => by injection hk with hk; exact hk.symm)) (fun i hi hh => by omega)
    · intro b hb
      rw [Hds.out] at hb
      simp [TreeG.blocks] at hb
      omega
  | some fm =>
    have hM := h.top fm hg
    have hfm : fm ∈ g.blocks := by unfold TreeG.blocks; simp [hg]
    have hfl := h.lt fm hfm
    have htf : tb ≠ fm := fun e => hni (e ▸ hfm)
    unfold topV at hc
    rw [hg] at hc
    have hM1 : MapIs (w.alloc (.map #[] 0)) fm (dirEnts g.ds) := hM.of_block (heap_alloc_old w _ hfl)
    have HM1 := Lib.hid hM1
    have Hg := Lib.hid hg
    have Hnk := Lib.hid hnk
    clear h hh hd hnk hM1 hM hg
    go_enter Tryz.func100, Tryz.ntmps100
    go_wp2_with (at_mapUpdate; refine Map.wp_put _ rfl _ _ _ rfl Tryz.underlying58 Tryz.underlying9 rfl HM1.out _ _ rfl rfl ?_; intro w3 hm3 hg3 hs3)
    go_end0
    have hold : ∀ i, i < w.heap.size → i ≠ fm → w3.heap[i]? = w.heap[i]? := fun i hi hne => by
      rw [hg3.block i (by simp; omega) (fun h => hne (by injection h)), heap_alloc_old w _ hi]
    have hb1 : w3.heap[w.heap.size]? = some (.map #[] 0) := by
      rw [hg3.block _ (by simp) (fun h => by injection h with h; omega)]
      exact heap_alloc_new w _
    refine ⟨rfl, fm, w.heap.size, ?_, ?_, ?_, ?_⟩
    · refine ⟨fun hh => (by cases hh), fun fm' hfm' => ?_, fun x hx => ?_, ?_⟩
      · injection hfm' with hfm'
        subst hfm'
        rw [keys_put_new Hnk.out] at hm3
        show MapIs w3 fm (dirEnts (g.ds ++ [_]))
        rw [dirEnts_append]
        exact hm3
      · rcases List.mem_append.1 hx with hx | hx
        · have hxb : x.blk ∈ g.blocks := by unfold TreeG.blocks; simp; exact .inr ⟨x, hx, rfl⟩
          refine (HT.out.dirs x hx).of_block (hold _ (HT.out.lt _ hxb) ?_)
          intro e
          have ha := HT.out.apart
          unfold TreeG.blocks at ha
          rw [Hg.out] at ha
          simp only [Option.toList_some, List.singleton_append, List.nodup_cons] at ha
          exact ha.1 (by rw [← e]; exact List.mem_map.2 ⟨x, hx, rfl⟩)
        · simp at hx
          subst hx
          exact ⟨#[], 0, hb1, MapKept.stamped_empty 0, rfl⟩
      · have ha := HT.out.apart
        have hlt := HT.out.lt
        unfold TreeG.blocks at ha hlt ⊢
        rw [Hg.out] at ha hlt
        simp only [List.map_append, List.map_cons, List.map_nil]
        rw [← List.append_assoc, List.nodup_append]
        refine ⟨ha, by simp, fun a h1 b h2 => ?_⟩
        simp at h2
        subst h2
        have := hlt a h1
        omega
    · have hv : cs[to']? = some (topV ⟨some fm, g.ds ++ [⟨d, w.heap.size, []⟩]⟩) := by rw [HH.out.at']; unfold topV; rw [Hg.out]
      rw [set_same hv, hold tb htl htf]
      exact HH.out.block
    · refine (Turn.refl _ w).alloc (.map #[] 0) |>.trans (S' := fun k => k = fm) (Turn.of_grown hg3 (fun k hk => by injection hk with hk; exact hk.symm)) ?_
      intro i hi hh
      subst hh
      exact .inr hfm
    · intro b hb
      unfold TreeG.blocks at hb ⊢
      rw [Hg.out]
      simp only [List.map_append, List.map_cons, List.map_nil, Option.toList_some, List.mem_append, List.mem_singleton, List.mem_map] at hb ⊢
      rcases hb with hb | hb | hb
      · exact .inl (.inl hb)
      · exact .inl (.inr hb)
      · exact .inr (by omega)

end Go.Proofs.YtmmlefbokplnnaaGreatDoor.Disk

namespace Go.Proofs.YtmmlefbokplnnaaGreatDoor.Disk
open Go.RowKit Go Go.Proofs.YtmmlefbokplnnaaGreatDoor.Base Go.Proofs.YtmmlefbokplnnaaGreatDoor.Map

def setFiles (ds : List DirG) (d : ByteArray) (fs : List (ByteArray × Nat)) : List DirG := ds.map fun y => if y.name = d then ⟨y.name, y.blk, fs⟩ else y

theorem dirEnts_set (ds : List DirG) (d : ByteArray) (fs : List (ByteArray × Nat)) : dirEnts (setFiles ds d fs) = dirEnts ds := by
  unfold dirEnts setFiles
  rw [List.map_map]
  apply List.map_congr_left
  intro y _
  simp only [Function.comp]
  split <;> rfl

theorem blks_set (ds : List DirG) (d : ByteArray) (fs : List (ByteArray × Nat)) : (setFiles ds d fs).map (·.blk) = ds.map (·.blk) := by
  unfold setFiles
  rw [List.map_map]
  apply List.map_congr_left
  intro y _
  simp only [Function.comp]
  split <;> rfl

theorem names_nodup {w : World} {ptr : Nat → Nat} {g : TreeG} (h : TreeAt w ptr g) : (g.ds.map (·.name)).Nodup := by
  cases hf : g.fm with
  | none => rw [h.none hf]; simp
  | some fm => have := (h.top fm hf).nodup; rwa [keys_dirEnts] at this

theorem lookDir_mem {g : TreeG} {d : ByteArray} {x : DirG} (h : lookDir g d = some x) : x ∈ g.ds ∧ x.name = d :=
  ⟨List.mem_of_find?_eq_some h, by have := List.find?_some h; simpa using this⟩

theorem name_inj {ds : List DirG} (hn : (ds.map (·.name)).Nodup) {x y : DirG} (hx : x ∈ ds) (hy : y ∈ ds) (h : x.name = y.name) : x = y := by
  induction ds with
  | nil => cases hx
  | cons z r ih =>
    simp only [List.map_cons, List.nodup_cons] at hn
    rcases List.mem_cons.1 hx with hx1 | hx1
    · rcases List.mem_cons.1 hy with hy1 | hy1
      · rw [hx1, hy1]
      · exact absurd (show z.name ∈ r.map (fun x => x.name) from List.mem_map.2 ⟨y, hy1, by rw [← hx1]; exact h.symm⟩) hn.1
    · rcases List.mem_cons.1 hy with hy1 | hy1
      · exact absurd (show z.name ∈ r.map (fun x => x.name) from List.mem_map.2 ⟨x, hx1, by rw [← hy1]; exact h⟩) hn.1
      · exact ih hn.2 hx1 hy1

/-- the files of one directory have turned -/
theorem TreeAt.setFiles {w w' : World} {ptr : Nat → Nat} {g : TreeG} (h : TreeAt w ptr g) {d : ByteArray} {x : DirG} (hx : lookDir g d = some x) {fs : List (ByteArray × Nat)} (hm : MapIs w' x.blk (fileEnts ptr fs)) (hg : w.grownBy w' (some x.blk)) :
    TreeAt w' ptr ⟨g.fm, setFiles g.ds d fs⟩ := by
  obtain ⟨hxm, hxn⟩ := lookDir_mem hx
  have ha := h.apart
  have hbl : (⟨g.fm, Disk.setFiles g.ds d fs⟩ : TreeG).blocks = g.blocks := by unfold TreeG.blocks; simp only; rw [blks_set]
  refine ⟨fun hf => ?_, fun fm hf => ?_, fun y hy => ?_, by rw [hbl]; exact ha⟩
  · have := h.none hf; rw [this] at hxm; cases hxm
  · show MapIs w' fm (dirEnts (Disk.setFiles g.ds d fs))
    rw [dirEnts_set]
    refine (h.top fm hf).of_block (hg.block fm (h.lt fm (by unfold TreeG.blocks; simp only at hf; simp [hf])) ?_)
    intro e
    injection e with e
    unfold TreeG.blocks at ha
    simp only at hf
    rw [hf] at ha
    simp only [Option.toList_some, List.singleton_append, List.nodup_cons] at ha
    exact ha.1 (by rw [e]; exact List.mem_map.2 ⟨x, hxm, rfl⟩)
  · unfold Disk.setFiles at hy
    obtain ⟨z, hz, rfl⟩ := List.mem_map.1 hy
    by_cases hzn : z.name = d
    · rw [if_pos hzn]
      have := name_inj (names_nodup h) hz hxm (by rw [hzn, hxn])
      subst this
      exact hm
    · rw [if_neg hzn]
      refine (h.dirs z hz).of_block (hg.block _ (h.dirs z hz).lt ?_)
      intro e
      injection e with e
      -- two directories in one block
      have hnd : (g.ds.map (·.blk)).Nodup := by unfold TreeG.blocks at ha; exact (List.nodup_append.1 ha).2.1
      have : z = x := by
        clear hy hm hg ha hbl
        have hzz := hz; have hxx := hxm
        revert hzz hxx hnd
        induction g.ds with
        | nil => intro _ h1; cases h1
        | cons q r ih =>
          intro hnd h1 h2
          simp only [List.map_cons, List.nodup_cons] at hnd
          rcases List.mem_cons.1 h1 with k1 | k1
          · rcases List.mem_cons.1 h2 with k2 | k2
            · rw [k1, k2]
            · exact absurd (show q.blk ∈ r.map (fun x => x.blk) from List.mem_map.2 ⟨x, k2, by rw [← k1]; exact e.symm⟩) hnd.1
          · rcases List.mem_cons.1 h2 with k2 | k2
            · exact absurd (show q.blk ∈ r.map (fun x => x.blk) from List.mem_map.2 ⟨z, k1, by rw [← k2]; exact e⟩) hnd.1
            · exact ih hnd.2 k1 k2
      exact hzn (by rw [this]; exact hxn)

theorem put_map (ptr : Nat → Nat) (fs : List (ByteArray × Nat)) (n : ByteArray) (i : Nat) : Map.put (fileEnts ptr fs) n (ptrV ptr i) = fileEnts ptr (Map.put fs n i) := by
  unfold fileEnts
  induction fs with
  | nil => rfl
  | cons p r ih =>
    simp only [List.map_cons, Map.put]
    split
    · rfl
    · rw [ih]; rfl

/-- where a file is put -/
def PutTo (g g' : TreeG) (d n : ByteArray) (i : Nat) : Prop :=
  ∃ gm : TreeG, ∃ x, ((gm = g) ∨ (lookDir g d = none ∧ ∃ fm b, gm = ⟨some fm, g.ds ++ [⟨d, b, []⟩]⟩)) ∧ lookDir gm d = some x ∧ g' = ⟨gm.fm, setFiles gm.ds d (Map.put x.files n i)⟩

theorem lookDir_new {g : TreeG} {d : ByteArray} (h : lookDir g d = none) (fm : Option Nat) (b : Nat) : lookDir ⟨fm, g.ds ++ [⟨d, b, []⟩]⟩ d = some ⟨d, b, []⟩ := by
  unfold lookDir at *
  simp only
  rw [List.find?_append, h]
  simp

set_option maxRecDepth 100000 in
set_option maxHeartbeats 1000000 in
theorem put_any {w : World} {ptr : Nat → Nat} {g : TreeG} (h : TreeAt w ptr g) (tb to' : Nat) (cs : Array Value) (e : TypeId) (hh : Holds w tb to' cs e g) (p : ByteArray) (hp : p.size < 4294967281) (i : Nat) (hmx : Max w) :
    Calls Tryz.prog 96 #[.pointer (some ⟨tb, to', none⟩), .string p, ptrV ptr i] w fun r w' => r = .returned (.tuple #[]) ∧ ∃ g', PutTo g g' (dirOf p) (baseOf p) i ∧ Wrote w w' ptr tb to' cs e g g' := by
  have hs := split_any p hp w hmx
  have hq := fun (r : Option Nat) (w : World) => run_eql_map_nil (P := Tryz.prog) w 128 _ _ r Tryz.underlying128
  have hq2 := fun (r : Option Nat) (w : World) => run_eql_map_nil (P := Tryz.prog) w 128 _ _ r Tryz.underlying128
  generalize dirOf p = d at hs ⊢
  generalize baseOf p = b at hs ⊢
  have hc := hh.cell
  have hni := hh.notIn h
  have htl := hh.lt
  have hsl := set_lt hh.at'
  unfold ptrV
  cases hl : lookDir g d with
  | some x =>
    obtain ⟨hxm, hxn⟩ := lookDir_mem hl
    have hx := h.dirs x hxm
    have h1 : ∀ n, (Instr.lookup 58 (topV g) (.string d) false).run Tryz.prog (w.drewN n) = .ok (.map (some x.blk)) (w.drewN n) := fun n => by
      have := look_dir (h.drew n) d
      unfold dirV at this
      rw [hl] at this
      exact this
    have HX := Lib.hid hx
    have HH := Lib.hid hh
    have HT := Lib.hid h
    have HL := Lib.hid hl
    have hxb : x.blk ∈ g.blocks := by unfold TreeG.blocks; simp; exact .inr ⟨x, hxm, rfl⟩
    clear h hh hl hx hmx hp
    generalize topV g = tv at hc h1
    go_enter Tryz.func96, Tryz.ntmps96
    go_wp2_with (first
      | (go_at_call 83; refine hs.mono ?_; rintro r w2 ⟨rfl, n, rfl⟩)
      | (at_mapUpdate; refine Map.wp_put _ rfl _ _ _ rfl Tryz.underlying128 Tryz.underlying9 rfl (HX.out.of_block rfl) _ _ rfl rfl ?_; intro w3 hm3 hg3 hs3))
    go_end0
    have hm3' : MapIs w3 x.blk (Map.put (fileEnts ptr x.files) b (ptrV ptr i)) := hm3
    rw [put_map] at hm3'
    have hg3' : w.grownBy w3 (some x.blk) := ⟨hg3.os, hg3.tape, hg3.output, hg3.size, hg3.block⟩
    refine ⟨rfl, ⟨g.fm, setFiles g.ds d (Map.put x.files b i)⟩, ⟨g, x, .inl rfl, HL.out, rfl⟩, HT.out.setFiles HL.out hm3' hg3', ?_, ?_, ?_⟩
    · have hv : cs[to']? = some (topV ⟨g.fm, setFiles g.ds d (Map.put x.files b i)⟩) := HH.out.at'
      rw [set_same hv, hg3'.block tb htl (fun h => hni (by injection h with h; rw [h]; exact hxb))]
      exact HH.out.block
    · exact Turn.of_grown hg3' (fun k hk => by injection hk with hk; subst hk; exact .inr hxb)
    · intro q hq'
      left
      unfold TreeG.blocks at hq' ⊢
      simp only at hq'
      rwa [blks_set] at hq'
  | none =>
    have h1 : ∀ n, (Instr.lookup 58 (topV g) (.string d) false).run Tryz.prog (w.drewN n) = .ok (.map none) (w.drewN n) := fun n => by
      have := look_dir (h.drew n) d
      unfold dirV at this
      rw [hl] at this
      exact this
    have ha : ∀ n, Calls Tryz.prog 100 #[.pointer (some ⟨tb, to', none⟩), .string d] (w.drewN n) _ := fun n => addFolder_any (h.drew n) tb to' cs e ⟨hh.block, hh.at'⟩ d hl
    have HA := Lib.hid ha
    have HH := Lib.hid hh
    have HT := Lib.hid h
    have HL := Lib.hid hl
    clear h hh hl hmx hp ha
    generalize topV g = tv at hc h1
    go_enter Tryz.func96, Tryz.ntmps96
    go_wp2_with (first
      | (go_at_call 83; refine hs.mono ?_; rintro r w2 ⟨rfl, n, rfl⟩)
      | (go_at_call 100; ((with_reducible refine (HA.out _).mono ?_); rintro r w2 ⟨rfl, fm, bb, hW⟩; have hO := hW.out hsl; have k0 := hO.cell; have k1 := look_dir hW.tree d; rw [show dirV _ d = Value.map (some bb) from by (unfold dirV; rw [lookDir_new HL.out]; rfl)] at k1; have HW := Lib.hid hW; clear hW hO))
      | (at_mapUpdate; refine Map.wp_put _ rfl _ _ _ rfl Tryz.underlying128 Tryz.underlying9 rfl (HW.out.tree.dirs ⟨d, bb, []⟩ (by simp)) _ _ rfl rfl ?_; intro w3 hm3 hg3 hs3))
    go_end0
    have hl2 : lookDir (⟨some fm, g.ds ++ [⟨d, bb, []⟩]⟩ : TreeG) d = some ⟨d, bb, []⟩ := lookDir_new HL.out _ _
    have hm3' : MapIs w3 bb (Map.put (fileEnts ptr []) b (ptrV ptr i)) := hm3
    rw [put_map] at hm3'
    have hO := HW.out.out hsl
    have hbb : bb ∈ (⟨some fm, g.ds ++ [⟨d, bb, []⟩]⟩ : TreeG).blocks := by unfold TreeG.blocks; simp
    refine ⟨rfl, ⟨some fm, setFiles (g.ds ++ [⟨d, bb, []⟩]) d (Map.put [] b i)⟩, ⟨⟨some fm, g.ds ++ [⟨d, bb, []⟩]⟩, ⟨d, bb, []⟩, .inr ⟨HL.out, fm, bb, rfl⟩, hl2, rfl⟩, HW.out.tree.setFiles hl2 hm3' hg3, ?_, ?_, ?_⟩
    · rw [hg3.block tb hO.lt (fun h => hO.notIn HW.out.tree (by injection h with h; rw [h]; exact hbb))]
      exact HW.out.holds
    · have t0 := HW.out.turn
      refine (Turn.of_drew (S := fun k => k = tb ∨ k ∈ g.blocks) n).trans (t0.trans (S' := fun k => k = bb) (Turn.of_grown hg3 (fun k hk => by injection hk with hk; exact hk.symm)) ?_) (fun _ _ h => h)
      intro q hq1 hq2
      subst hq2
      rcases HW.out.new _ hbb with h | h
      · exact .inr h
      · omega
    · intro q hq'
      have : q ∈ (⟨some fm, g.ds ++ [⟨d, bb, []⟩]⟩ : TreeG).blocks := by
        unfold TreeG.blocks at hq' ⊢
        simp only at hq' ⊢
        rwa [blks_set] at hq'
      exact HW.out.new q this

end Go.Proofs.YtmmlefbokplnnaaGreatDoor.Disk

/-
  The document's answer for a disk without power: each call. Own text.
-/
import Derived.Test.YtbgogipdldegdaaGreatDoorDRefN
namespace Go.Proofs.YtbgogipdldegdaaGreatDoor.Disk
open Go.RowKit Go Go.Proofs.YtbgogipdldegdaaGreatDoor.Base Go.Proofs.YtbgogipdldegdaaGreatDoor.Map

/-- the document's disk without power, in memory -/
def RefOff (w : World) (R : Nat) : Prop := ∃ n : Int, w.heap[R]? = some (.cells #[.slice none 0 0, .slice none 0 0, .slice none 0 0, .slice none 0 0, .int .i64 0, .bool true, .int .i64 n] 43)
theorem RefOff.lt {w : World} {R : Nat} (h : RefOff w R) : R < w.heap.size := by
  obtain ⟨n, h⟩ := h
  exact (Array.getElem?_eq_some_iff.1 h).1
theorem RefOff.below {w w' : World} {R : Nat} (h : RefOff w R) (hb : Below w.heap.size w w') : RefOff w' R := by
  have hl := h.lt
  obtain ⟨n, h⟩ := h
  exact ⟨n, (hb.block R hl).trans h⟩
theorem RefOff.cell {w : World} {R : Nat} (h : RefOff w R) : w.cell? ⟨R, 5, none⟩ = some (.bool true) := by
  obtain ⟨n, h⟩ := h
  rw [cell_of_row w R 5 _ _ _ h]; rfl

theorem RefOff.set {w : World} {R : Nat} (h : RefOff w R) (n : Int) : RefOff (w.setCell ⟨R, 6, none⟩ (.int .i64 n)) R := by
  obtain ⟨m, h⟩ := h
  refine ⟨n, ?_⟩
  rw [heap_setCell_same w R 6 _ _ _ h]
  rfl

section
variable {w : World} {R : Nat}

theorem RMkdir_off (h : RefOff w R) (p : ByteArray) (hp : p.size < 4611686018427387904) : Calls Tryz.prog 27 #[.pointer (some ⟨R, 0, none⟩), .string p] w fun r w' => r = .returned (.int .i64 1) ∧ Below w.heap.size w w' := by
  have c5 := h.cell
  have k0 := fun W => refIsName p hp W
  have K0 := Lib.hid k0
  clear h k0 hp
  go_enter Tryz.func27, Tryz.ntmps27
  go_wp2_with (first
    | (go_at_call 59; ((with_reducible refine (K0.out _).mono ?_); rintro r w2 ⟨rfl, rfl⟩)))
  go_ret
  exact ⟨rfl, bel _⟩

theorem RCreate_off (h : RefOff w R) (p : ByteArray) (hp : p.size < 4611686018427387904) : Calls Tryz.prog 28 #[.pointer (some ⟨R, 0, none⟩), .string p] w fun r w' => r = .returned (.int .i64 1) ∧ Below w.heap.size w w' := by
  have c5 := h.cell
  have k0 := fun W => refIsPath p hp W
  have K0 := Lib.hid k0
  have C5 : ∀ w2, Below w.heap.size w w2 → w2.cell? ⟨R, 5, none⟩ = some (.bool true) := fun w2 hb => (h.below hb).cell
  clear h k0 hp
  go_enter Tryz.func28, Tryz.ntmps28
  go_wp2_with (first
    | (go_at_call 70; ((with_reducible refine (K0.out _).mono ?_); rintro r w2 ⟨rfl, hb0⟩; have c50 := C5 _ hb0)))
  go_ret
  exact ⟨rfl, hb0⟩

theorem RRemove_off (h : RefOff w R) (p : ByteArray) (hp : p.size < 4611686018427387904) : Calls Tryz.prog 38 #[.pointer (some ⟨R, 0, none⟩), .string p] w fun r w' => r = .returned (.int .i64 1) ∧ Below w.heap.size w w' := by
  have c5 := h.cell
  have k0 := fun W => refIsPath p hp W
  have K0 := Lib.hid k0
  have C5 : ∀ w2, Below w.heap.size w w2 → w2.cell? ⟨R, 5, none⟩ = some (.bool true) := fun w2 hb => (h.below hb).cell
  clear h k0 hp
  go_enter Tryz.func38, Tryz.ntmps38
  go_wp2_with (first
    | (go_at_call 70; ((with_reducible refine (K0.out _).mono ?_); rintro r w2 ⟨rfl, hb0⟩; have c50 := C5 _ hb0)))
  go_ret
  exact ⟨rfl, hb0⟩

theorem RRename_off (h : RefOff w R) (p : ByteArray) (hp : p.size < 4611686018427387904) (q : ByteArray) (hq : q.size < 4611686018427387904) : Calls Tryz.prog 36 #[.pointer (some ⟨R, 0, none⟩), .string p, .string q] w fun r w' => r = .returned (.int .i64 1) ∧ Below w.heap.size w w' := by
  have c5 := h.cell
  have k0 := fun W => refIsPath p hp W
  have K0 := Lib.hid k0
  have k1 := fun W => refIsPath q hq W
  have K1 := Lib.hid k1
  have C5 : ∀ w2, Below w.heap.size w w2 → w2.cell? ⟨R, 5, none⟩ = some (.bool true) := fun w2 hb => (h.below hb).cell
  clear h k0 k1 hp hq
  go_enter Tryz.func36, Tryz.ntmps36
  go_wp2_with (first
    | (go_at_call 70; ((with_reducible refine (K0.out _).mono ?_); rintro r w2 ⟨rfl, hb0⟩; have c50 := C5 _ hb0))
    | (go_at_call 70; ((with_reducible refine (K1.out _).mono ?_); rintro r w3 ⟨rfl, hb1⟩; have c51 := C5 _ (hb0.trans (hb1.mono hb0.size)))))
  go_ret
  exact ⟨rfl, hb0.trans (hb1.mono hb0.size)⟩

theorem Rfile_off (h : RefOff w R) (p : ByteArray) (hp : p.size < 4611686018427387904) : Calls Tryz.prog 72 #[.pointer (some ⟨R, 0, none⟩), .string p] w fun r w' => r = .returned (.tuple #[.int .i64 0, .int .i64 1]) ∧ Below w.heap.size w w' := by
  have c5 := h.cell
  have k0 := fun W => refIsPath p hp W
  have K0 := Lib.hid k0
  have C5 : ∀ w2, Below w.heap.size w w2 → w2.cell? ⟨R, 5, none⟩ = some (.bool true) := fun w2 hb => (h.below hb).cell
  clear h k0 hp
  go_enter Tryz.func72, Tryz.ntmps72
  go_wp2_with (first
    | (go_at_call 70; ((with_reducible refine (K0.out _).mono ?_); rintro r w2 ⟨rfl, hb0⟩; have c50 := C5 _ hb0)))
  go_ret2
  exact ⟨rfl, hb0⟩

theorem RSyncNames_off (h : RefOff w R)  : Calls Tryz.prog 34 #[.pointer (some ⟨R, 0, none⟩)] w fun r w' => r = .returned (.int .i64 1) ∧ Below w.heap.size w w' := by
  have c5 := h.cell
  clear h 
  go_enter Tryz.func34, Tryz.ntmps34
  go_wp2
  go_ret
  exact ⟨rfl, bel _⟩

theorem RAppend_off (h : RefOff w R) (p : ByteArray) (hp : p.size < 4611686018427387904) (v : Value) : Calls Tryz.prog 30 #[.pointer (some ⟨R, 0, none⟩), .string p, v] w fun r w' => r = .returned (.int .i64 1) ∧ Below w.heap.size w w' := by
  have c5 := h.cell
  have k0 := Rfile_off h p hp
  have K0 := Lib.hid k0
  clear h k0 hp
  go_enter Tryz.func30, Tryz.ntmps30
  go_wp2_with (first
    | (go_at_call 72; ((with_reducible refine K0.out.mono ?_); rintro r w2 ⟨rfl, hb0⟩)))
  go_ret
  exact ⟨rfl, hb0⟩

theorem RCut_off (h : RefOff w R) (p : ByteArray) (hp : p.size < 4611686018427387904) (n : Int) : Calls Tryz.prog 32 #[.pointer (some ⟨R, 0, none⟩), .string p, .int .i64 n] w fun r w' => r = .returned (.int .i64 1) ∧ Below w.heap.size w w' := by
  have c5 := h.cell
  have k0 := Rfile_off h p hp
  have K0 := Lib.hid k0
  clear h k0 hp
  go_enter Tryz.func32, Tryz.ntmps32
  go_wp2_with (first
    | (go_at_call 72; ((with_reducible refine K0.out.mono ?_); rintro r w2 ⟨rfl, hb0⟩)))
  go_ret
  exact ⟨rfl, hb0⟩

theorem RSync_off (h : RefOff w R) (p : ByteArray) (hp : p.size < 4611686018427387904) : Calls Tryz.prog 33 #[.pointer (some ⟨R, 0, none⟩), .string p] w fun r w' => r = .returned (.int .i64 1) ∧ Below w.heap.size w w' := by
  have c5 := h.cell
  have k0 := Rfile_off h p hp
  have K0 := Lib.hid k0
  clear h k0 hp
  go_enter Tryz.func33, Tryz.ntmps33
  go_wp2_with (first
    | (go_at_call 72; ((with_reducible refine K0.out.mono ?_); rintro r w2 ⟨rfl, hb0⟩)))
  go_ret
  exact ⟨rfl, hb0⟩

theorem RFlip_off (h : RefOff w R) (p : ByteArray) (hp : p.size < 4611686018427387904) (n m : Int) : Calls Tryz.prog 80 #[.pointer (some ⟨R, 0, none⟩), .string p, .int .i64 n, .int .u8 m] w fun r w' => r = .returned (.int .i64 1) ∧ Below w.heap.size w w' := by
  have c5 := h.cell
  have k0 := Rfile_off h p hp
  have K0 := Lib.hid k0
  clear h k0 hp
  go_enter Tryz.func80, Tryz.ntmps80
  go_wp2_with (first
    | (go_at_call 72; ((with_reducible refine K0.out.mono ?_); rintro r w2 ⟨rfl, hb0⟩)))
  go_ret
  exact ⟨rfl, hb0⟩

theorem RAll_off (h : RefOff w R) (p : ByteArray) (hp : p.size < 4611686018427387904) : Calls Tryz.prog 41 #[.pointer (some ⟨R, 0, none⟩), .string p] w fun r w' => r = .returned (.tuple #[.string ⟨#[]⟩, .int .i64 1]) ∧ Below w.heap.size w w' := by
  have c5 := h.cell
  have k0 := Rfile_off h p hp
  have K0 := Lib.hid k0
  clear h k0 hp
  go_enter Tryz.func41, Tryz.ntmps41
  go_wp2_with (first
    | (go_at_call 72; ((with_reducible refine K0.out.mono ?_); rintro r w2 ⟨rfl, hb0⟩)))
  go_ret2
  exact ⟨rfl, hb0⟩

theorem RRead_off (h : RefOff w R) (p : ByteArray) (hp : p.size < 4611686018427387904) (n m : Int) : Calls Tryz.prog 40 #[.pointer (some ⟨R, 0, none⟩), .string p, .int .i64 n, .int .i64 m] w fun r w' => r = .returned (.tuple #[.string ⟨#[]⟩, .int .i64 1]) ∧ Below w.heap.size w w' := by
  have c5 := h.cell
  have k0 := RAll_off h p hp
  have K0 := Lib.hid k0
  clear h k0 hp
  go_enter Tryz.func40, Tryz.ntmps40
  go_wp2_with (first
    | (go_at_call 41; ((with_reducible refine K0.out.mono ?_); rintro r w2 ⟨rfl, hb0⟩)))
  go_ret2
  exact ⟨rfl, hb0⟩

theorem RList_off (h : RefOff w R) (p : ByteArray) (hp : p.size < 4611686018427387904) : Calls Tryz.prog 18 #[.pointer (some ⟨R, 0, none⟩), .string p] w fun r w' => r = .returned (.tuple #[.slice none 0 0, .int .i64 1]) ∧ Below w.heap.size w w' := by
  have c5 := h.cell
  have k0 := fun W => refIsName p hp W
  have K0 := Lib.hid k0
  clear h k0 hp
  go_enter Tryz.func18, Tryz.ntmps18
  go_wp2_with (first
    | (go_at_call 59; ((with_reducible refine (K0.out _).mono ?_); rintro r w2 ⟨rfl, rfl⟩)))
  go_ret2
  exact ⟨rfl, bel _⟩

theorem RCrash_off (h : RefOff w R) (n : Int) : Calls Tryz.prog 78 #[.pointer (some ⟨R, 0, none⟩), .int .i64 n] w fun r w' => r = .returned (.tuple #[]) ∧ RefOff w' R ∧ Turn (fun k => k = R) w w' := by
  obtain ⟨m, hb⟩ := h
  have c6 : w.cell? ⟨R, 6, none⟩ = some (.int .i64 m) := by rw [cell_of_row w R 6 _ _ _ hb]; rfl
  have f6 : w.frozen? ⟨R, 6, none⟩ = false := by simp [World.frozen?, hb]
  have HB := Lib.hid hb
  clear hb
  go_enter Tryz.func78, Tryz.ntmps78
  by_cases hn : 0 < n
  all_goals
    go_wp2
    go_end0
    refine ⟨rfl, ?_, ?_⟩
    · first
        | exact RefOff.set ⟨_, HB.out⟩ _
        | exact (RefOff.set ⟨_, HB.out⟩ _).set _
    · first
        | exact (Turn.refl (fun k => k = R) w).set _ _ (fun _ => rfl)
        | exact ((Turn.refl (fun k => k = R) w).set _ _ (fun _ => rfl)).set _ _ (fun _ => rfl)

end
end Go.Proofs.YtbgogipdldegdaaGreatDoor.Disk

/-
  The texts NStep, NCopy, NStep2, joined. Own text.
-/
import Derived.Test.YtmmlefbokplnnaaGreatDoorJ36
import Derived.Deep.RegionHeld3
set_option linter.unusedVariables false
set_option linter.unusedSimpArgs false
namespace Go.Proofs.YtmmlefbokplnnaaGreatDoor.Disk
open Go.RowKit Go Go.Proofs.YtmmlefbokplnnaaGreatDoor.Base Go.Proofs.YtmmlefbokplnnaaGreatDoor.Map

/-- a call of the script -/
def opW (k : Int) (A B : ByteArray) (N K : Int) (pv dv : Value) (y : Bool) : Value := .agg #[.int .i64 k, .string A, .string B, .int .i64 N, .int .i64 K, pv, dv, .bool y]

section
variable {b0 D R P S : Nat} {E : Nat → Addr} {G : DiskG} {q : RefG} {m m1 : M} {w W w1 w2 : World}

theorem kept5 {v1 v2 v3 v4 v5 : Value} (h1 : w1.cell? ⟨P, 1, none⟩ = some v1) (h2 : w1.cell? ⟨P, 2, none⟩ = some v2) (h3 : w1.cell? ⟨P, 3, none⟩ = some v3) (h4 : w1.cell? ⟨P, 4, none⟩ = some v4) (h5 : w1.cell? ⟨P, 5, none⟩ = some v5) (hk : Keeps P w1 w2) :
    w2.cell? ⟨P, 1, none⟩ = some v1 ∧ w2.cell? ⟨P, 2, none⟩ = some v2 ∧ w2.cell? ⟨P, 3, none⟩ = some v3 ∧ w2.cell? ⟨P, 4, none⟩ = some v4 ∧ w2.cell? ⟨P, 5, none⟩ = some v5 :=
  ⟨hk _ _ h1, hk _ _ h2, hk _ _ h3, hk _ _ h4, hk _ _ h5⟩

theorem names_le (m : M) (s : NStep) : (m.names s).1 ≤ 7 := by rw [names_fst]; unfold tickV; split <;> omega
theorem mkdir_le (m : M) (d : ByteArray) : (m.mkdir d).1 ≤ 7 := by
  unfold M.mkdir
  split
  · simp
  · split
    · simp
    · split
      · simp
      · exact names_le _ _

/-- what a call leaves -/
def Went (b0 : Nat) (E : Nat → Addr) (D R : Nat) (W : World) (m1 : M) (S1 : Nat) (w' : World) : Prop := ∃ G' q', Pair b0 E D R 0 G' q' m1 w' ∧ Rel G' m1 S1 ∧ Below b0 W w'

theorem create_le (m : M) (p : ByteArray) : (m.create p).1 ≤ 7 := by
  unfold M.create
  repeat (first | (split <;> try simp) )
theorem file_le (m : M) (p : ByteArray) : (m.file p).2 ≤ 7 := by
  unfold M.file
  repeat (first | (split <;> try simp) )
theorem append_le (m : M) (p : ByteArray) (t : List Nat) : (m.append p t).1 ≤ 7 := by
  unfold M.append
  have := file_le m p
  split
  · exact this
  · split
    · simp
    · split <;> simp
theorem cut_le (m : M) (p : ByteArray) (n : Int) : (m.cut p n).1 ≤ 7 := by
  unfold M.cut
  have := file_le m p
  split
  · exact this
  · split
    · simp
    · split <;> simp
theorem sync_le (m : M) (p : ByteArray) : (m.sync p).1 ≤ 7 := by
  unfold M.sync
  have := file_le m p
  split
  · exact this
  · split <;> simp
theorem syncNames_le (m : M) : m.syncNames.1 ≤ 7 := by
  unfold M.syncNames
  split
  · simp
  · split <;> simp
theorem rename_le (m : M) (a b : ByteArray) : (m.rename a b).1 ≤ 7 := by
  unfold M.rename
  split
  · simp
  · split
    · simp
    · split
      · simp
      · split
        · simp
        · split
          · simp
          · exact names_le _ _
theorem remove_le (m : M) (p : ByteArray) : (m.remove p).1 ≤ 7 := by
  unfold M.remove
  split
  · simp
  · split
    · simp
    · split
      · simp
      · exact names_le _ _
theorem flip_le (m : M) (p : ByteArray) (a : Int) (k : Nat) : (m.flip p a k).1 ≤ 7 := by
  unfold M.flip
  have := file_le m p
  split
  · exact this
  · split <;> simp

set_option maxRecDepth 100000 in
set_option maxHeartbeats 4000000 in
theorem step1_on (h : Pair b0 E D R P G q m w) (hr : Rel G m S) (hS : S ≤ 1048576) (A B : ByteArray) (hA : A.size < 4294967281) (N K : Int) (pv dv : Value) (y : Bool) :
    Calls Tryz.prog 11 #[.pointer (some ⟨D, 0, none⟩), .pointer (some ⟨R, 0, none⟩), opW 1 A B N K pv dv y] w fun r w' => r = .returned (.bool true) ∧ Went b0 E D R w (m.mkdir A).2 (S + 1) w' := by
  have hm := hr.lim hS
  have hle := mkdir_le m A
  have hD := fun (q : RefG) (mm : M) (W : World) (hp : Pair b0 E D R w.heap.size G q mm W) => d_mkdir hp hr hS A hA
  have hR := fun (G : DiskG) (W : World) (hp : Pair b0 E D R w.heap.size G q m W) => r_mkdir hp hm A hA
  obtain ⟨hp1, hb1⟩ := h.boxed #[.int .i64 1, .string A, .string B, .int .i64 N, .int .i64 K, pv, dv, .bool y]
  obtain ⟨W, hW⟩ : ∃ W, w.alloc (.cells #[.int .i64 1, .string A, .string B, .int .i64 N, .int .i64 K, pv, dv, .bool y] 31) = W := ⟨_, rfl⟩
  have hc : ∀ i, W.cell? ⟨w.heap.size, i, none⟩ = (#[.int .i64 1, .string A, .string B, .int .i64 N, .int .i64 K, pv, dv, .bool y] : Array Value)[i]? := fun i => by rw [← hW]; exact cell_of_row _ _ _ _ _ _ (heap_alloc_new w _)
  rw [hW] at hp1 hb1
  obtain ⟨c, hcc⟩ : ∃ c, (m.mkdir A).1 = c := ⟨_, rfl⟩
  obtain ⟨m1, hm1⟩ : ∃ m1, (m.mkdir A).2 = m1 := ⟨_, rfl⟩
  rw [hcc] at hle hD hR
  rw [hm1] at hD hR ⊢
  have HD := Lib.hid hD
  have HR := Lib.hid hR
  have HB := Lib.hid hb1
  have HW := Lib.hid hW
  clear h hr hm hD hR hb1 hcc hm1
  unfold opW
  go_enter Tryz.func11, Tryz.ntmps11
  go_wp2_with fail
  have c1 : W.cell? ⟨w.heap.size, 1, none⟩ = some (.string A) := hc 1
  have c2 : W.cell? ⟨w.heap.size, 2, none⟩ = some (.string B) := hc 2
  have c3 : W.cell? ⟨w.heap.size, 3, none⟩ = some (.int .i64 N) := hc 3
  have c4 : W.cell? ⟨w.heap.size, 4, none⟩ = some (.int .i64 K) := hc 4
  have c5 : W.cell? ⟨w.heap.size, 5, none⟩ = some pv := hc 5
  obtain ⟨hp2, hk2, _, hb2⟩ := hp1.below (Below.refl _ _).drew
  have HB2 := Lib.hid (HB.out.trans hb2)
  clear hc hW hp1 hb2
  go_region_held3 (fun w' => w'.cell? ⟨w.heap.size, 1, none⟩ = some (.string A) ∧ w'.cell? ⟨w.heap.size, 2, none⟩ = some (.string B) ∧ w'.cell? ⟨w.heap.size, 3, none⟩ = some (.int .i64 N) ∧ w'.cell? ⟨w.heap.size, 4, none⟩ = some (.int .i64 K) ∧ w'.cell? ⟨w.heap.size, 5, none⟩ = some pv)
    ((go_split_ands; first | exact ⟨by assumption, by assumption, by assumption, by assumption, by assumption⟩ | exact kept5 (by assumption) (by assumption) (by assumption) (by assumption) (by assumption) (by assumption)))
    (first
      | (go_at_call 26; go_split_ands; ((with_reducible refine (HD.out _ _ _ (by assumption)).mono ?_); rintro r w3 ⟨v, G', rfl, he, hp3, hr3, hk3, hb3⟩))
      | (go_at_call 25; go_split_ands; ((with_reducible refine (code_any (Pair.env (by assumption)) _ c hle _ _ (by assumption)).mono ?_); rintro r w4 ⟨rfl, hb4⟩; obtain ⟨hp4, hk4, he4, hbb4⟩ := Pair.below (b0 := b0) (E := E) (D := D) (R := R) (P := w.heap.size) (by assumption) hb4))
      | (go_at_call 27; go_split_ands; ((with_reducible refine (HR.out _ _ (by assumption)).mono ?_); rintro r w5 ⟨rfl, q', hp5, hk5, he5, hb5⟩; (try have hv5 := he5 _ _ _ _ (by assumption)))))
  all_goals
    go_wp2
    go_ret
    exact ⟨rfl, _, _, Pair.free (by assumption), by assumption, ((HB2.out.trans hb3).trans hbb4).trans hb5⟩

set_option maxRecDepth 100000 in
set_option maxHeartbeats 4000000 in
theorem step2_on (h : Pair b0 E D R P G q m w) (hr : Rel G m S) (hS : S ≤ 1048576) (A B : ByteArray) (hA : A.size < 4294967281) (N K : Int) (pv dv : Value) (y : Bool) :
    Calls Tryz.prog 11 #[.pointer (some ⟨D, 0, none⟩), .pointer (some ⟨R, 0, none⟩), opW 2 A B N K pv dv y] w fun r w' => r = .returned (.bool true) ∧ Went b0 E D R w (m.create A).2 (S + 2) w' := by
  have hm := hr.lim hS
  have hle := create_le m A
  have hD := fun (q : RefG) (mm : M) (W : World) (hp : Pair b0 E D R w.heap.size G q mm W) => d_create hp hr hS A hA
  have hR := fun (G : DiskG) (W : World) (hp : Pair b0 E D R w.heap.size G q m W) => r_create hp hm A hA
  obtain ⟨hp1, hb1⟩ := h.boxed #[.int .i64 2, .string A, .string B, .int .i64 N, .int .i64 K, pv, dv, .bool y]
  obtain ⟨W, hW⟩ : ∃ W, w.alloc (.cells #[.int .i64 2, .string A, .string B, .int .i64 N, .int .i64 K, pv, dv, .bool y] 31) = W := ⟨_, rfl⟩
  have hc : ∀ i, W.cell? ⟨w.heap.size, i, none⟩ = (#[.int .i64 2, .string A, .string B, .int .i64 N, .int .i64 K, pv, dv, .bool y] : Array Value)[i]? := fun i => by rw [← hW]; exact cell_of_row _ _ _ _ _ _ (heap_alloc_new w _)
  rw [hW] at hp1 hb1
  obtain ⟨c, hcc⟩ : ∃ c, (m.create A).1 = c := ⟨_, rfl⟩
  obtain ⟨m1, hm1⟩ : ∃ m1, (m.create A).2 = m1 := ⟨_, rfl⟩
  rw [hcc] at hle hD hR
  rw [hm1] at hD hR ⊢
  have HD := Lib.hid hD
  have HR := Lib.hid hR
  have HB := Lib.hid hb1
  have HW := Lib.hid hW
  clear h hr hm hD hR hb1 hcc hm1
  unfold opW
  go_enter Tryz.func11, Tryz.ntmps11
  go_wp2_with fail
  have c1 : W.cell? ⟨w.heap.size, 1, none⟩ = some (.string A) := hc 1
  have c2 : W.cell? ⟨w.heap.size, 2, none⟩ = some (.string B) := hc 2
  have c3 : W.cell? ⟨w.heap.size, 3, none⟩ = some (.int .i64 N) := hc 3
  have c4 : W.cell? ⟨w.heap.size, 4, none⟩ = some (.int .i64 K) := hc 4
  have c5 : W.cell? ⟨w.heap.size, 5, none⟩ = some pv := hc 5
  obtain ⟨hp2, hk2, _, hb2⟩ := hp1.below (Below.refl _ _).drew
  have HB2 := Lib.hid (HB.out.trans hb2)
  clear hc hW hp1 hb2
  go_region_held3 (fun w' => w'.cell? ⟨w.heap.size, 1, none⟩ = some (.string A) ∧ w'.cell? ⟨w.heap.size, 2, none⟩ = some (.string B) ∧ w'.cell? ⟨w.heap.size, 3, none⟩ = some (.int .i64 N) ∧ w'.cell? ⟨w.heap.size, 4, none⟩ = some (.int .i64 K) ∧ w'.cell? ⟨w.heap.size, 5, none⟩ = some pv)
    ((go_split_ands; first | exact ⟨by assumption, by assumption, by assumption, by assumption, by assumption⟩ | exact kept5 (by assumption) (by assumption) (by assumption) (by assumption) (by assumption) (by assumption)))
    (first
      | (go_at_call 20; go_split_ands; ((with_reducible refine (HD.out _ _ _ (by assumption)).mono ?_); rintro r w3 ⟨v, G', rfl, he, hp3, hr3, hk3, hb3⟩))
      | (go_at_call 25; go_split_ands; ((with_reducible refine (code_any (Pair.env (by assumption)) _ c hle _ _ (by assumption)).mono ?_); rintro r w4 ⟨rfl, hb4⟩; obtain ⟨hp4, hk4, he4, hbb4⟩ := Pair.below (b0 := b0) (E := E) (D := D) (R := R) (P := w.heap.size) (by assumption) hb4))
      | (go_at_call 28; go_split_ands; ((with_reducible refine (HR.out _ _ (by assumption)).mono ?_); rintro r w5 ⟨rfl, q', hp5, hk5, he5, hb5⟩; (try have hv5 := he5 _ _ _ _ (by assumption)))))
  all_goals
    go_wp2
    go_ret
    exact ⟨rfl, _, _, Pair.free (by assumption), by assumption, ((HB2.out.trans hb3).trans hbb4).trans hb5⟩

set_option maxRecDepth 100000 in
set_option maxHeartbeats 4000000 in
theorem step4_on (h : Pair b0 E D R P G q m w) (hr : Rel G m S) (hS : S ≤ 1048576) (A B : ByteArray) (hA : A.size < 4294967281) (N K : Int) (hN : inI N) (pv dv : Value) (y : Bool) :
    Calls Tryz.prog 11 #[.pointer (some ⟨D, 0, none⟩), .pointer (some ⟨R, 0, none⟩), opW 4 A B N K pv dv y] w fun r w' => r = .returned (.bool true) ∧ Went b0 E D R w (m.cut A N).2 (S + 1) w' := by
  have hm := hr.lim hS
  have hn := hr.numsIn
  have hle := cut_le m A N
  have hD := fun (q : RefG) (mm : M) (W : World) (hp : Pair b0 E D R w.heap.size G q mm W) => d_cut hp hr hS A hA N hN
  have hR := fun (G : DiskG) (W : World) (hp : Pair b0 E D R w.heap.size G q m W) => r_cut hp hm hn A hA N hN
  obtain ⟨hp1, hb1⟩ := h.boxed #[.int .i64 4, .string A, .string B, .int .i64 N, .int .i64 K, pv, dv, .bool y]
  obtain ⟨W, hW⟩ : ∃ W, w.alloc (.cells #[.int .i64 4, .string A, .string B, .int .i64 N, .int .i64 K, pv, dv, .bool y] 31) = W := ⟨_, rfl⟩
  have hc : ∀ i, W.cell? ⟨w.heap.size, i, none⟩ = (#[.int .i64 4, .string A, .string B, .int .i64 N, .int .i64 K, pv, dv, .bool y] : Array Value)[i]? := fun i => by rw [← hW]; exact cell_of_row _ _ _ _ _ _ (heap_alloc_new w _)
  rw [hW] at hp1 hb1
  obtain ⟨c, hcc⟩ : ∃ c, (m.cut A N).1 = c := ⟨_, rfl⟩
  obtain ⟨m1, hm1⟩ : ∃ m1, (m.cut A N).2 = m1 := ⟨_, rfl⟩
  rw [hcc] at hle hD hR
  rw [hm1] at hD hR ⊢
  have HD := Lib.hid hD
  have HR := Lib.hid hR
  have HB := Lib.hid hb1
  have HW := Lib.hid hW
  clear h hr hm hn hD hR hb1 hcc hm1
  unfold opW
  go_enter Tryz.func11, Tryz.ntmps11
  go_wp2_with fail
  have c1 : W.cell? ⟨w.heap.size, 1, none⟩ = some (.string A) := hc 1
  have c2 : W.cell? ⟨w.heap.size, 2, none⟩ = some (.string B) := hc 2
  have c3 : W.cell? ⟨w.heap.size, 3, none⟩ = some (.int .i64 N) := hc 3
  have c4 : W.cell? ⟨w.heap.size, 4, none⟩ = some (.int .i64 K) := hc 4
  have c5 : W.cell? ⟨w.heap.size, 5, none⟩ = some pv := hc 5
  obtain ⟨hp2, hk2, _, hb2⟩ := hp1.below (Below.refl _ _).drew
  have HB2 := Lib.hid (HB.out.trans hb2)
  clear hc hW hp1 hb2
  go_region_held3 (fun w' => w'.cell? ⟨w.heap.size, 1, none⟩ = some (.string A) ∧ w'.cell? ⟨w.heap.size, 2, none⟩ = some (.string B) ∧ w'.cell? ⟨w.heap.size, 3, none⟩ = some (.int .i64 N) ∧ w'.cell? ⟨w.heap.size, 4, none⟩ = some (.int .i64 K) ∧ w'.cell? ⟨w.heap.size, 5, none⟩ = some pv)
    ((go_split_ands; first | exact ⟨by assumption, by assumption, by assumption, by assumption, by assumption⟩ | exact kept5 (by assumption) (by assumption) (by assumption) (by assumption) (by assumption) (by assumption)))
    (first
      | (go_at_call 31; go_split_ands; ((with_reducible refine (HD.out _ _ _ (by assumption)).mono ?_); rintro r w3 ⟨v, G', rfl, he, hp3, hr3, hk3, hb3⟩))
      | (go_at_call 25; go_split_ands; ((with_reducible refine (code_any (Pair.env (by assumption)) _ c hle _ _ (by assumption)).mono ?_); rintro r w4 ⟨rfl, hb4⟩; obtain ⟨hp4, hk4, he4, hbb4⟩ := Pair.below (b0 := b0) (E := E) (D := D) (R := R) (P := w.heap.size) (by assumption) hb4))
      | (go_at_call 32; go_split_ands; ((with_reducible refine (HR.out _ _ (by assumption)).mono ?_); rintro r w5 ⟨rfl, q', hp5, hk5, he5, hb5⟩; (try have hv5 := he5 _ _ _ _ (by assumption)))))
  all_goals
    go_wp2
    go_ret
    exact ⟨rfl, _, _, Pair.free (by assumption), by assumption, ((HB2.out.trans hb3).trans hbb4).trans hb5⟩

set_option maxRecDepth 100000 in
set_option maxHeartbeats 4000000 in
theorem step5_on (h : Pair b0 E D R P G q m w) (hr : Rel G m S) (hS : S ≤ 1048576) (A B : ByteArray) (hA : A.size < 4294967281) (N K : Int) (pv dv : Value) (y : Bool) :
    Calls Tryz.prog 11 #[.pointer (some ⟨D, 0, none⟩), .pointer (some ⟨R, 0, none⟩), opW 5 A B N K pv dv y] w fun r w' => r = .returned (.bool true) ∧ Went b0 E D R w (m.sync A).2 S w' := by
  have hm := hr.lim hS
  have hn := hr.numsIn
  have hle := sync_le m A
  have hD := fun (q : RefG) (mm : M) (W : World) (hp : Pair b0 E D R w.heap.size G q mm W) => d_sync hp hr A hA
  have hR := fun (G : DiskG) (W : World) (hp : Pair b0 E D R w.heap.size G q m W) => r_sync hp hm hn A hA
  obtain ⟨hp1, hb1⟩ := h.boxed #[.int .i64 5, .string A, .string B, .int .i64 N, .int .i64 K, pv, dv, .bool y]
  obtain ⟨W, hW⟩ : ∃ W, w.alloc (.cells #[.int .i64 5, .string A, .string B, .int .i64 N, .int .i64 K, pv, dv, .bool y] 31) = W := ⟨_, rfl⟩
  have hc : ∀ i, W.cell? ⟨w.heap.size, i, none⟩ = (#[.int .i64 5, .string A, .string B, .int .i64 N, .int .i64 K, pv, dv, .bool y] : Array Value)[i]? := fun i => by rw [← hW]; exact cell_of_row _ _ _ _ _ _ (heap_alloc_new w _)
  rw [hW] at hp1 hb1
  obtain ⟨c, hcc⟩ : ∃ c, (m.sync A).1 = c := ⟨_, rfl⟩
  obtain ⟨m1, hm1⟩ : ∃ m1, (m.sync A).2 = m1 := ⟨_, rfl⟩
  rw [hcc] at hle hD hR
  rw [hm1] at hD hR ⊢
  have HD := Lib.hid hD
  have HR := Lib.hid hR
  have HB := Lib.hid hb1
  have HW := Lib.hid hW
  clear h hr hm hn hD hR hb1 hcc hm1
  unfold opW
  go_enter Tryz.func11, Tryz.ntmps11
  go_wp2_with fail
  have c1 : W.cell? ⟨w.heap.size, 1, none⟩ = some (.string A) := hc 1
  have c2 : W.cell? ⟨w.heap.size, 2, none⟩ = some (.string B) := hc 2
  have c3 : W.cell? ⟨w.heap.size, 3, none⟩ = some (.int .i64 N) := hc 3
  have c4 : W.cell? ⟨w.heap.size, 4, none⟩ = some (.int .i64 K) := hc 4
  have c5 : W.cell? ⟨w.heap.size, 5, none⟩ = some pv := hc 5
  obtain ⟨hp2, hk2, _, hb2⟩ := hp1.below (Below.refl _ _).drew
  have HB2 := Lib.hid (HB.out.trans hb2)
  clear hc hW hp1 hb2
  go_region_held3 (fun w' => w'.cell? ⟨w.heap.size, 1, none⟩ = some (.string A) ∧ w'.cell? ⟨w.heap.size, 2, none⟩ = some (.string B) ∧ w'.cell? ⟨w.heap.size, 3, none⟩ = some (.int .i64 N) ∧ w'.cell? ⟨w.heap.size, 4, none⟩ = some (.int .i64 K) ∧ w'.cell? ⟨w.heap.size, 5, none⟩ = some pv)
    ((go_split_ands; first | exact ⟨by assumption, by assumption, by assumption, by assumption, by assumption⟩ | exact kept5 (by assumption) (by assumption) (by assumption) (by assumption) (by assumption) (by assumption)))
    (first
      | (go_at_call 23; go_split_ands; ((with_reducible refine (HD.out _ _ _ (by assumption)).mono ?_); rintro r w3 ⟨v, G', rfl, he, hp3, hr3, hk3, hb3⟩))
      | (go_at_call 25; go_split_ands; ((with_reducible refine (code_any (Pair.env (by assumption)) _ c hle _ _ (by assumption)).mono ?_); rintro r w4 ⟨rfl, hb4⟩; obtain ⟨hp4, hk4, he4, hbb4⟩ := Pair.below (b0 := b0) (E := E) (D := D) (R := R) (P := w.heap.size) (by assumption) hb4))
      | (go_at_call 33; go_split_ands; ((with_reducible refine (HR.out _ _ (by assumption)).mono ?_); rintro r w5 ⟨rfl, q', hp5, hk5, he5, hb5⟩; (try have hv5 := he5 _ _ _ _ (by assumption)))))
  all_goals
    go_wp2
    go_ret
    exact ⟨rfl, _, _, Pair.free (by assumption), by assumption, ((HB2.out.trans hb3).trans hbb4).trans hb5⟩

set_option maxRecDepth 100000 in
set_option maxHeartbeats 4000000 in
theorem step7_on (h : Pair b0 E D R P G q m w) (hr : Rel G m S) (hS : S ≤ 1048576) (A B : ByteArray) (hA : A.size < 4294967281) (hB : B.size < 4294967281) (N K : Int) (pv dv : Value) (y : Bool) :
    Calls Tryz.prog 11 #[.pointer (some ⟨D, 0, none⟩), .pointer (some ⟨R, 0, none⟩), opW 7 A B N K pv dv y] w fun r w' => r = .returned (.bool true) ∧ Went b0 E D R w (m.rename A B).2 (S + 1) w' := by
  have hm := hr.lim hS
  have hle := rename_le m A B
  have hD := fun (q : RefG) (mm : M) (W : World) (hp : Pair b0 E D R w.heap.size G q mm W) => d_rename hp hr hS A B hA hB
  have hR := fun (G : DiskG) (W : World) (hp : Pair b0 E D R w.heap.size G q m W) => r_rename hp hm A B hA hB
  obtain ⟨hp1, hb1⟩ := h.boxed #[.int .i64 7, .string A, .string B, .int .i64 N, .int .i64 K, pv, dv, .bool y]
  obtain ⟨W, hW⟩ : ∃ W, w.alloc (.cells #[.int .i64 7, .string A, .string B, .int .i64 N, .int .i64 K, pv, dv, .bool y] 31) = W := ⟨_, rfl⟩
  have hc : ∀ i, W.cell? ⟨w.heap.size, i, none⟩ = (#[.int .i64 7, .string A, .string B, .int .i64 N, .int .i64 K, pv, dv, .bool y] : Array Value)[i]? := fun i => by rw [← hW]; exact cell_of_row _ _ _ _ _ _ (heap_alloc_new w _)
  rw [hW] at hp1 hb1
  obtain ⟨c, hcc⟩ : ∃ c, (m.rename A B).1 = c := ⟨_, rfl⟩
  obtain ⟨m1, hm1⟩ : ∃ m1, (m.rename A B).2 = m1 := ⟨_, rfl⟩
  rw [hcc] at hle hD hR
  rw [hm1] at hD hR ⊢
  have HD := Lib.hid hD
  have HR := Lib.hid hR
  have HB := Lib.hid hb1
  have HW := Lib.hid hW
  clear h hr hm hD hR hb1 hcc hm1
  unfold opW
  go_enter Tryz.func11, Tryz.ntmps11
  go_wp2_with fail
  have c1 : W.cell? ⟨w.heap.size, 1, none⟩ = some (.string A) := hc 1
  have c2 : W.cell? ⟨w.heap.size, 2, none⟩ = some (.string B) := hc 2
  have c3 : W.cell? ⟨w.heap.size, 3, none⟩ = some (.int .i64 N) := hc 3
  have c4 : W.cell? ⟨w.heap.size, 4, none⟩ = some (.int .i64 K) := hc 4
  have c5 : W.cell? ⟨w.heap.size, 5, none⟩ = some pv := hc 5
  obtain ⟨hp2, hk2, _, hb2⟩ := hp1.below (Below.refl _ _).drew
  have HB2 := Lib.hid (HB.out.trans hb2)
  clear hc hW hp1 hb2
  go_region_held3 (fun w' => w'.cell? ⟨w.heap.size, 1, none⟩ = some (.string A) ∧ w'.cell? ⟨w.heap.size, 2, none⟩ = some (.string B) ∧ w'.cell? ⟨w.heap.size, 3, none⟩ = some (.int .i64 N) ∧ w'.cell? ⟨w.heap.size, 4, none⟩ = some (.int .i64 K) ∧ w'.cell? ⟨w.heap.size, 5, none⟩ = some pv)
    ((go_split_ands; first | exact ⟨by assumption, by assumption, by assumption, by assumption, by assumption⟩ | exact kept5 (by assumption) (by assumption) (by assumption) (by assumption) (by assumption) (by assumption)))
    (first
      | (go_at_call 35; go_split_ands; ((with_reducible refine (HD.out _ _ _ (by assumption)).mono ?_); rintro r w3 ⟨v, G', rfl, he, hp3, hr3, hk3, hb3⟩))
      | (go_at_call 25; go_split_ands; ((with_reducible refine (code_any (Pair.env (by assumption)) _ c hle _ _ (by assumption)).mono ?_); rintro r w4 ⟨rfl, hb4⟩; obtain ⟨hp4, hk4, he4, hbb4⟩ := Pair.below (b0 := b0) (E := E) (D := D) (R := R) (P := w.heap.size) (by assumption) hb4))
      | (go_at_call 36; go_split_ands; ((with_reducible refine (HR.out _ _ (by assumption)).mono ?_); rintro r w5 ⟨rfl, q', hp5, hk5, he5, hb5⟩; (try have hv5 := he5 _ _ _ _ (by assumption)))))
  all_goals
    go_wp2
    go_ret
    exact ⟨rfl, _, _, Pair.free (by assumption), by assumption, ((HB2.out.trans hb3).trans hbb4).trans hb5⟩

set_option maxRecDepth 100000 in
set_option maxHeartbeats 4000000 in
theorem step8_on (h : Pair b0 E D R P G q m w) (hr : Rel G m S) (hS : S ≤ 1048576) (A B : ByteArray) (hA : A.size < 4294967281) (N K : Int) (pv dv : Value) (y : Bool) :
    Calls Tryz.prog 11 #[.pointer (some ⟨D, 0, none⟩), .pointer (some ⟨R, 0, none⟩), opW 8 A B N K pv dv y] w fun r w' => r = .returned (.bool true) ∧ Went b0 E D R w (m.remove A).2 (S + 1) w' := by
  have hm := hr.lim hS
  have hle := remove_le m A
  have hD := fun (q : RefG) (mm : M) (W : World) (hp : Pair b0 E D R w.heap.size G q mm W) => d_remove hp hr hS A hA
  have hR := fun (G : DiskG) (W : World) (hp : Pair b0 E D R w.heap.size G q m W) => r_remove hp hm A hA
  obtain ⟨hp1, hb1⟩ := h.boxed #[.int .i64 8, .string A, .string B, .int .i64 N, .int .i64 K, pv, dv, .bool y]
  obtain ⟨W, hW⟩ : ∃ W, w.alloc (.cells #[.int .i64 8, .string A, .string B, .int .i64 N, .int .i64 K, pv, dv, .bool y] 31) = W := ⟨_, rfl⟩
  have hc : ∀ i, W.cell? ⟨w.heap.size, i, none⟩ = (#[.int .i64 8, .string A, .string B, .int .i64 N, .int .i64 K, pv, dv, .bool y] : Array Value)[i]? := fun i => by rw [← hW]; exact cell_of_row _ _ _ _ _ _ (heap_alloc_new w _)
  rw [hW] at hp1 hb1
  obtain ⟨c, hcc⟩ : ∃ c, (m.remove A).1 = c := ⟨_, rfl⟩
  obtain ⟨m1, hm1⟩ : ∃ m1, (m.remove A).2 = m1 := ⟨_, rfl⟩
  rw [hcc] at hle hD hR
  rw [hm1] at hD hR ⊢
  have HD := Lib.hid hD
  have HR := Lib.hid hR
  have HB := Lib.hid hb1
  have HW := Lib.hid hW
  clear h hr hm hD hR hb1 hcc hm1
  unfold opW
  go_enter Tryz.func11, Tryz.ntmps11
  go_wp2_with fail
  have c1 : W.cell? ⟨w.heap.size, 1, none⟩ = some (.string A) := hc 1
  have c2 : W.cell? ⟨w.heap.size, 2, none⟩ = some (.string B) := hc 2
  have c3 : W.cell? ⟨w.heap.size, 3, none⟩ = some (.int .i64 N) := hc 3
  have c4 : W.cell? ⟨w.heap.size, 4, none⟩ = some (.int .i64 K) := hc 4
  have c5 : W.cell? ⟨w.heap.size, 5, none⟩ = some pv := hc 5
  obtain ⟨hp2, hk2, _, hb2⟩ := hp1.below (Below.refl _ _).drew
  have HB2 := Lib.hid (HB.out.trans hb2)
  clear hc hW hp1 hb2
  go_region_held3 (fun w' => w'.cell? ⟨w.heap.size, 1, none⟩ = some (.string A) ∧ w'.cell? ⟨w.heap.size, 2, none⟩ = some (.string B) ∧ w'.cell? ⟨w.heap.size, 3, none⟩ = some (.int .i64 N) ∧ w'.cell? ⟨w.heap.size, 4, none⟩ = some (.int .i64 K) ∧ w'.cell? ⟨w.heap.size, 5, none⟩ = some pv)
    ((go_split_ands; first | exact ⟨by assumption, by assumption, by assumption, by assumption, by assumption⟩ | exact kept5 (by assumption) (by assumption) (by assumption) (by assumption) (by assumption) (by assumption)))
    (first
      | (go_at_call 37; go_split_ands; ((with_reducible refine (HD.out _ _ _ (by assumption)).mono ?_); rintro r w3 ⟨v, G', rfl, he, hp3, hr3, hk3, hb3⟩))
      | (go_at_call 25; go_split_ands; ((with_reducible refine (code_any (Pair.env (by assumption)) _ c hle _ _ (by assumption)).mono ?_); rintro r w4 ⟨rfl, hb4⟩; obtain ⟨hp4, hk4, he4, hbb4⟩ := Pair.below (b0 := b0) (E := E) (D := D) (R := R) (P := w.heap.size) (by assumption) hb4))
      | (go_at_call 38; go_split_ands; ((with_reducible refine (HR.out _ _ (by assumption)).mono ?_); rintro r w5 ⟨rfl, q', hp5, hk5, he5, hb5⟩; (try have hv5 := he5 _ _ _ _ (by assumption)))))
  all_goals
    go_wp2
    go_ret
    exact ⟨rfl, _, _, Pair.free (by assumption), by assumption, ((HB2.out.trans hb3).trans hbb4).trans hb5⟩

set_option maxRecDepth 100000 in
set_option maxHeartbeats 4000000 in
theorem step6_on (h : Pair b0 E D R P G q m w) (hr : Rel G m S) (hS : S ≤ 1048576) (A B : ByteArray) (N K : Int) (pv dv : Value) (y : Bool) :
    Calls Tryz.prog 11 #[.pointer (some ⟨D, 0, none⟩), .pointer (some ⟨R, 0, none⟩), opW 6 A B N K pv dv y] w fun r w' => r = .returned (.bool true) ∧ Went b0 E D R w m.syncNames.2 S w' := by
  have hm := hr.lim hS
  have hle := syncNames_le m
  have hD := fun (q : RefG) (mm : M) (W : World) (hp : Pair b0 E D R w.heap.size G q mm W) => d_names hp hr hS
  have hR := fun (G : DiskG) (W : World) (hp : Pair b0 E D R w.heap.size G q m W) => r_names hp hm
  obtain ⟨hp1, hb1⟩ := h.boxed #[.int .i64 6, .string A, .string B, .int .i64 N, .int .i64 K, pv, dv, .bool y]
  obtain ⟨W, hW⟩ : ∃ W, w.alloc (.cells #[.int .i64 6, .string A, .string B, .int .i64 N, .int .i64 K, pv, dv, .bool y] 31) = W := ⟨_, rfl⟩
  have hc : ∀ i, W.cell? ⟨w.heap.size, i, none⟩ = (#[.int .i64 6, .string A, .string B, .int .i64 N, .int .i64 K, pv, dv, .bool y] : Array Value)[i]? := fun i => by rw [← hW]; exact cell_of_row _ _ _ _ _ _ (heap_alloc_new w _)
  rw [hW] at hp1 hb1
  obtain ⟨c, hcc⟩ : ∃ c, m.syncNames.1 = c := ⟨_, rfl⟩
  obtain ⟨m1, hm1⟩ : ∃ m1, m.syncNames.2 = m1 := ⟨_, rfl⟩
  rw [hcc] at hle hD hR
  rw [hm1] at hD hR ⊢
  have HD := Lib.hid hD
  have HR := Lib.hid hR
  have HB := Lib.hid hb1
  have HW := Lib.hid hW
  clear h hr hm hD hR hb1 hcc hm1
  unfold opW
  go_enter Tryz.func11, Tryz.ntmps11
  go_wp2_with fail
  have c1 : W.cell? ⟨w.heap.size, 1, none⟩ = some (.string A) := hc 1
  have c2 : W.cell? ⟨w.heap.size, 2, none⟩ = some (.string B) := hc 2
  have c3 : W.cell? ⟨w.heap.size, 3, none⟩ = some (.int .i64 N) := hc 3
  have c4 : W.cell? ⟨w.heap.size, 4, none⟩ = some (.int .i64 K) := hc 4
  have c5 : W.cell? ⟨w.heap.size, 5, none⟩ = some pv := hc 5
  clear hc hW
  go_wp2_with (first
    | (go_at_call 21; ((with_reducible refine (HD.out _ _ _ hp1).mono ?_); rintro r w3 ⟨v, G', rfl, he, hp3, hr3, hk3, hb3⟩))
    | (go_at_call 25; ((with_reducible refine (code_any hp3.env _ c hle _ _ he).mono ?_); rintro r w4 ⟨rfl, hb4⟩; obtain ⟨hp4, hk4, he4, hbb4⟩ := hp3.below hb4))
    | (go_at_call 34; ((with_reducible refine (HR.out _ _ hp4).mono ?_); rintro r w5 ⟨rfl, q', hp5, hk5, he5, hb5⟩)))
  go_ret
  exact ⟨rfl, _, _, hp5.free, hr3, ((HB.out.trans hb3).trans hbb4).trans hb5⟩

end
end Go.Proofs.YtmmlefbokplnnaaGreatDoor.Disk

namespace Go.Proofs.YtmmlefbokplnnaaGreatDoor.Disk
open Go.RowKit Go Go.Proofs.YtmmlefbokplnnaaGreatDoor.Base Go.Proofs.YtmmlefbokplnnaaGreatDoor.Map

/-- the texts of a list, by their places -/
abbrev psOf (l : List ByteArray) : Nat → ByteArray := fun j => l[j]!
def strs (l : List ByteArray) : List Value := l.map Value.string
theorem strs_at {l : List ByteArray} {j : Nat} (h : j < l.length) : (strs l)[j]? = some (.string l[j]!) := by
  unfold strs
  rw [List.getElem?_map, List.getElem?_eq_getElem h, getElem!_pos l j h]
  rfl
theorem parts_src {w : World} {ao : Option Addr} {cap : Nat} {l : List ByteArray} (h : PartsAt w ao l.length (psOf l)) : Src Tryz.prog 1 28 (.slice ao l.length cap) l.length (strs l) w := by
  have one : ∀ u ∈ strs l, u.oneCell' = true := fun u hu => by
    obtain ⟨x, _, rfl⟩ := List.mem_map.1 hu
    rfl
  have hlen : (strs l).length = l.length := by simp [strs]
  cases ao with
  | none =>
    have h0 : l = [] := by
      cases l with
      | nil => rfl
      | cons a r => obtain ⟨b, off, e, _⟩ := h 0 (by simp); cases e
    subst h0
    exact Src.ofNil w Tryz.underlying28 cap
  | some a =>
    refine Src.ofSlice w Tryz.underlying28 _ l.length cap _ (by rw [hlen, Nat.mul_one]) ?_ one
    intro j u hj
    have hjl : j < l.length := by
      rcases Nat.lt_or_ge j l.length with h | h
      · exact h
      · rw [List.getElem?_eq_none (by rw [hlen]; omega)] at hj; cases hj
    obtain ⟨b, off, e, _, hc⟩ := h j hjl
    injection e with e
    subst e
    rw [Go.WideShapes.add_plain, hc, ← strs_at hjl, hj]
theorem ints_at {l : List Int} {j : Nat} (h : j < l.length) : (ints l)[j]? = some (.int .i64 (l[j]'h)) := by
  unfold ints
  rw [List.getElem?_map, List.getElem?_eq_getElem h]
  rfl
theorem IntsAt.src {w : World} {ao : Option Addr} {cap : Nat} {l : List Int} (h : IntsAt w ao l) : Src Tryz.prog 1 29 (.slice ao l.length cap) l.length (ints l) w := by
  have one : ∀ u ∈ ints l, u.oneCell' = true := fun u hu => by
    obtain ⟨x, _, rfl⟩ := List.mem_map.1 hu
    rfl
  have hlen : (ints l).length = l.length := by simp [ints]
  cases ao with
  | none =>
    have h0 : l = [] := by
      cases l with
      | nil => rfl
      | cons a r => obtain ⟨b, off, e, _⟩ := h 0 (by simp); cases e
    subst h0
    exact Src.ofNil w Tryz.underlying29 cap
  | some a =>
    refine Src.ofSlice w Tryz.underlying29 _ l.length cap _ (by rw [hlen, Nat.mul_one]) ?_ one
    intro j u hj
    have hjl : j < l.length := by
      rcases Nat.lt_or_ge j l.length with h | h
      · exact h
      · rw [List.getElem?_eq_none (by rw [hlen]; omega)] at hj; cases hj
    obtain ⟨b, off, e, _, hc⟩ := h j hjl
    injection e with e
    subst e
    rw [Go.WideShapes.add_plain, hc, ← ints_at hjl, hj]

theorem int_info : (Tryz.prog.info? 3).map (fun i => (i.zero, i.size, i.bytes)) = some (some (.int .i64 0), 1, 8) := by kernel_rfl

/-- a list of one's own, behind which another list's values are laid -/
theorem row_join {ts e : TypeId} {z : Value} {q : Nat} (hu : Tryz.prog.underlying ts = some (.slice e)) (hi : (Tryz.prog.info? e).map (fun i => (i.zero, i.size, i.bytes)) = some (some z, 1, q)) (hz : z.cells.size = 1) {w W : World} (hb : Below w.heap.size w W) {v : Value} {n : Nat} {vs : List Value}
    (h : W.ownsRow 0 e 1 v n vs) (hnew : ∀ k, v.ownBlock = some k → w.heap.size ≤ k) {x : Value} {m : Nat} {news : List Value} (hs : Src Tryz.prog 1 ts x m news W) (h63 : n + m ≤ maxLen) (hl : (n + m) * q ≤ 140737488355328) :
    ∃ v' w', (Builtin.append_ #[ts, ts] ts #[v, x]).run Tryz.prog W = .ok v' w' ∧ w'.ownsRow 0 e 1 v' (n + m) (vs ++ news) ∧ Below w.heap.size w w' ∧ (∀ k, v'.ownBlock = some k → w.heap.size ≤ k) := by
  obtain ⟨i0, hi, hz0, hz1, hz2⟩ := info_parts hi
  obtain ⟨v', w', h1, h2, h3, h4⟩ := Row.append_src (P := Tryz.prog) W ts ts ts e i0 z 1 q hu hi hz0 hz1 hz2 hz (by decide) v n _ h x m _ hs h63 hl
  refine ⟨v', w', h1, h2, hb.grown h3 hb.size hnew, fun k hk => ?_⟩
  rcases h4 with e | e
  · exact hnew k (by rw [← e]; exact hk)
  · rw [hk] at e
    injection e with e
    have := hb.size
    omega
theorem texts_of_row {w : World} {n : Nat} {v : Value} {l : List ByteArray} (hn : n = l.length) (h : w.ownsRow 0 9 1 v n (strs l)) : ∃ ao cap, v = .slice ao n cap ∧ PartsAt w ao n (psOf l) := by
  rcases h.2 with ⟨rfl, h0⟩ | ⟨g, cap, cur, rfl, hb0, h2, h3, h4, h5, h6⟩
  · rw [h0]
    exact ⟨none, 0, rfl, fun j hj => absurd hj (by omega)⟩
  · refine ⟨_, cap, rfl, fun j hj => ⟨g, 0, rfl, (Array.getElem?_eq_some_iff.1 h2).1, ?_⟩⟩
    have hc := strs_at (l := l) (j := j) (by omega)
    rw [← h6] at hc
    rw [List.getElem?_take_of_lt (by omega), Array.getElem?_toList] at hc
    simp only [World.cell?, h2, Nat.zero_add]
    simp only [Option.isSome_none, Bool.false_eq_true, if_false]
    exact hc

/-- the numbers, in a list of one's own -/
theorem copied_ints {W : World} {ao : Option Addr} {ca : Nat} {l : List Int} (hl : IntsAt W ao l) (hn : l.length ≤ 1048576) :
    ∃ a1 c1 w1, (Builtin.append_ #[29, 29] 29 #[.slice none 0 0, .slice ao l.length ca]).run Tryz.prog W = .ok (.slice a1 l.length c1) w1 ∧ w1.ownsRow 0 3 1 (.slice a1 l.length c1) l.length (ints l) ∧ Below W.heap.size W w1 := by
  obtain ⟨v1, w1, h1, h2, h3, h4⟩ := row_join Tryz.underlying29 int_info rfl (Below.refl W.heap.size W) (World.ownsRow_nil W 0 3 1) (fun k hk => (by cases hk)) (hl.src (cap := ca)) (by unfold maxLen; omega) (by omega)
  simp only [Nat.zero_add, List.nil_append] at h2
  obtain ⟨a1, c1, rfl, _⟩ := row_len h2
  exact ⟨a1, c1, w1, h1, h2, h3⟩

theorem twin_any (W : World) (ao : Option Addr) (ca : Nat) (l : List ByteArray) (hl : PartsAt W ao l.length (psOf l)) (hn : l.length ≤ 1048576) :
    Calls Tryz.prog 29 #[.slice ao l.length ca] W fun r w' => ∃ a2 c2, r = .returned (.slice a2 l.length c2) ∧ PartsAt w' a2 l.length (psOf l) ∧ Below W.heap.size W w' ∧ ∀ b off, a2 = some ⟨b, off, none⟩ → W.heap.size ≤ b := by
  obtain ⟨v1, w1, h1, h2, h3, h4⟩ := row_join Tryz.underlying28 str_info rfl (Below.refl W.heap.size W) (World.ownsRow_nil W 0 9 1) (fun k hk => (by cases hk)) (parts_src (cap := ca) hl) (by unfold maxLen; omega) (by omega)
  simp only [Nat.zero_add, List.nil_append] at h2
  obtain ⟨a2, c2, rfl, k5⟩ := texts_of_row rfl h2
  have HRun := Lib.hid h1
  have HK := Lib.hid k5
  have HB := Lib.hid h3
  have HO : Hid (∀ b off, a2 = some ⟨b, off, none⟩ → W.heap.size ≤ b) := Lib.hid (fun b off e => h4 b (by rw [e]; rfl))
  obtain ⟨n, hnn⟩ : ∃ n, l.length = n := ⟨_, rfl⟩
  rw [hnn] at HRun HK ⊢
  clear h1 k5 h3 h2 h4 hl hnn
  go_enter Tryz.func29, Tryz.ntmps29
  go_wp2_with (at_builtin; refine Row.append_by rfl (.const (.slice none 0 0)) (.tmp 3) _ rfl _ _ rfl rfl HRun.out ?_)
  go_ret
  exact ⟨_, _, rfl, HK.out, HB.out, HO.out⟩

end Go.Proofs.YtmmlefbokplnnaaGreatDoor.Disk

namespace Go.Proofs.YtmmlefbokplnnaaGreatDoor.Disk
open Go.RowKit Go Go.Proofs.YtmmlefbokplnnaaGreatDoor.Base Go.Proofs.YtmmlefbokplnnaaGreatDoor.Map

section
variable {b0 D R P S : Nat} {E : Nat → Addr} {G : DiskG} {q : RefG} {m m1 : M} {w W w1 w2 : World}

theorem PartsAt.low {w w' : World} {b0 : Nat} {ao : Option Addr} {n : Nat} {ps : Nat → ByteArray} (h : PartsAt w ao n ps) (hl : 0 < n → ∀ b off, ao = some ⟨b, off, none⟩ → b < b0) (hb : Below b0 w w') : PartsAt w' ao n ps := fun j hj => by
  obtain ⟨b, off, h1, h2, h3⟩ := h j hj
  refine ⟨b, off, h1, Nat.lt_of_lt_of_le h2 hb.size, ?_⟩
  rw [World.cell?_of_block (w := w) (hb.block b (hl (by omega) b off h1))]
  exact h3

set_option maxRecDepth 100000 in
set_option maxHeartbeats 4000000 in
theorem step3_on (h : Pair b0 E D R P G q m w) (hr : Rel G m S) (hS : S ≤ 1048576) (A B : ByteArray) (hA : A.size < 4294967281) (N K : Int) (pa : Option Addr) (pc : Nat) (l : List ByteArray) (hP : PartsAt w pa l.length (psOf l)) (hlow : 0 < l.length → ∀ b off, pa = some ⟨b, off, none⟩ → b < b0) (hll : l.length ≤ 1048576) (hT : (cat (psOf l) l.length).length ≤ 1048576) (dv : Value) (y : Bool) :
    Calls Tryz.prog 11 #[.pointer (some ⟨D, 0, none⟩), .pointer (some ⟨R, 0, none⟩), opW 3 A B N K (.slice pa l.length pc) dv y] w fun r w' => r = .returned (.bool true) ∧ Went b0 E D R w (m.append A (cat (psOf l) l.length)).2 (S + 1 + (cat (psOf l) l.length).length) w' := by
  have hm := hr.lim hS
  have hn := hr.numsIn
  have hle := append_le m A (cat (psOf l) l.length)
  have hD := fun (q : RefG) (mm : M) (W : World) (hp : Pair b0 E D R w.heap.size G q mm W) (ao : Option Addr) (cp : Nat) (hq : PartsAt W ao l.length (psOf l)) (hpo : ∀ b off, ao = some ⟨b, off, none⟩ → ¬ G.own D b) => d_append hp hr hS A hA ao l.length cp (psOf l) hq hpo (by omega) (by omega)
  have hR := fun (G : DiskG) (W : World) (hp : Pair b0 E D R w.heap.size G q m W) (hb : Below b0 w W) => r_append hp hm hn A hA pa l.length pc (psOf l) (hP.low hlow hb) (by omega) (by omega)
  have hTw := fun (W : World) (hb : Below b0 w W) => twin_any W pa pc l (hP.low hlow hb) hll
  obtain ⟨hp1, hb1⟩ := h.boxed #[.int .i64 3, .string A, .string B, .int .i64 N, .int .i64 K, .slice pa l.length pc, dv, .bool y]
  obtain ⟨W, hW⟩ : ∃ W, w.alloc (.cells #[.int .i64 3, .string A, .string B, .int .i64 N, .int .i64 K, .slice pa l.length pc, dv, .bool y] 31) = W := ⟨_, rfl⟩
  have hc : ∀ i, W.cell? ⟨w.heap.size, i, none⟩ = (#[.int .i64 3, .string A, .string B, .int .i64 N, .int .i64 K, .slice pa l.length pc, dv, .bool y] : Array Value)[i]? := fun i => by rw [← hW]; exact cell_of_row _ _ _ _ _ _ (heap_alloc_new w _)
  rw [hW] at hp1 hb1
  obtain ⟨c, hcc⟩ : ∃ c, (m.append A (cat (psOf l) l.length)).1 = c := ⟨_, rfl⟩
  obtain ⟨m1, hm1⟩ : ∃ m1, (m.append A (cat (psOf l) l.length)).2 = m1 := ⟨_, rfl⟩
  rw [hcc] at hle hD hR
  rw [hm1] at hD hR ⊢
  obtain ⟨S1, hS1⟩ : ∃ S1, S + 1 + (cat (psOf l) l.length).length = S1 := ⟨_, rfl⟩
  rw [hS1] at hD ⊢
  obtain ⟨LN, hLN⟩ : ∃ LN, l.length = LN := ⟨_, rfl⟩
  rw [hLN] at hD hR hTw hc hW ⊢
  have HTw := Lib.hid hTw
  have HD := Lib.hid hD
  have HR := Lib.hid hR
  have HB := Lib.hid hb1
  have HW := Lib.hid hW
  clear h hr hm hn hD hR hb1 hcc hm1 hTw hP hlow hT hS1 hLN hll
  unfold opW
  go_enter Tryz.func11, Tryz.ntmps11
  go_wp2_with fail
  have c1 : W.cell? ⟨w.heap.size, 1, none⟩ = some (.string A) := hc 1
  have c2 : W.cell? ⟨w.heap.size, 2, none⟩ = some (.string B) := hc 2
  have c3 : W.cell? ⟨w.heap.size, 3, none⟩ = some (.int .i64 N) := hc 3
  have c4 : W.cell? ⟨w.heap.size, 4, none⟩ = some (.int .i64 K) := hc 4
  have c5 : W.cell? ⟨w.heap.size, 5, none⟩ = some (.slice pa LN pc) := hc 5
  obtain ⟨hp2, hk2, _, hb2⟩ := hp1.below (Below.refl _ _).drew
  have hbw := HB.out.trans hb2
  clear hc hW hp1 hb2
  go_region_held3 (fun w' => w'.cell? ⟨w.heap.size, 1, none⟩ = some (.string A) ∧ w'.cell? ⟨w.heap.size, 2, none⟩ = some (.string B) ∧ w'.cell? ⟨w.heap.size, 3, none⟩ = some (.int .i64 N) ∧ w'.cell? ⟨w.heap.size, 4, none⟩ = some (.int .i64 K) ∧ w'.cell? ⟨w.heap.size, 5, none⟩ = some (.slice pa LN pc))
    ((go_split_ands; first | exact ⟨by assumption, by assumption, by assumption, by assumption, by assumption⟩ | exact kept5 (by assumption) (by assumption) (by assumption) (by assumption) (by assumption) (by assumption)))
    (first
      | (go_at_call 29; go_split_ands; ((with_reducible refine (HTw.out _ (by assumption)).mono ?_); rintro r wt ⟨ta, tc, rfl, hpt, hbt, hfr⟩; obtain ⟨hpp, hkk, hee, hbb⟩ := Pair.below (b0 := b0) (E := E) (D := D) (R := R) (P := w.heap.size) (G := G) (q := q) (m := m) (by assumption) hbt; have hbw2 := Below.trans hbw hbb; have hpo2 : ∀ b off, ta = some ⟨b, off, none⟩ → ¬ G.own D b := fun b off e ho => by have h1 := hfr b off e; have h2 := Parts.own_lt hp2.disk b ho; omega))
      | (go_at_call 22; go_split_ands; ((with_reducible refine (HD.out _ _ _ hpp _ _ hpt hpo2).mono ?_); rintro r w3 ⟨v, G', rfl, he, hp3, hr3, hk3, hb3⟩; have hbw3 := Below.trans hbw2 hb3))
      | (go_at_call 25; go_split_ands; ((with_reducible refine (code_any (Pair.env hp3) _ c hle _ _ he).mono ?_); rintro r w4 ⟨rfl, hb4⟩; obtain ⟨hp4, hk4, he4, hbb4⟩ := Pair.below hp3 hb4; have hbw4 := Below.trans hbw3 hbb4))
      | (go_at_call 30; go_split_ands; ((with_reducible refine (HR.out _ _ hp4 hbw4).mono ?_); rintro r w5 ⟨rfl, q', hp5, hk5, he5, hb5⟩; have hbw5 := Below.trans hbw4 hb5)))
  all_goals
    go_wp2
    go_ret
    exact ⟨rfl, _, _, hp5.free, hr3, hbw5⟩


end
end Go.Proofs.YtmmlefbokplnnaaGreatDoor.Disk

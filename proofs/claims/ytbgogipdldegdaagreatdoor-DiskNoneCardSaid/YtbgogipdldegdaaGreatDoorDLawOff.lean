/-
  The law's step with a nil disk. Own text.
-/
import Derived.Test.YtbgogipdldegdaaGreatDoorDRefOff
import Derived.Deep.RegionHeld3
namespace Go.Proofs.YtbgogipdldegdaaGreatDoor.Disk
open Go.RowKit Go Go.Proofs.YtbgogipdldegdaaGreatDoor.Base Go.Proofs.YtbgogipdldegdaaGreatDoor.Map

/-- a world of the law: no disk, the document's disk without power -/
structure Dark (w0 : World) (E : Nat → Addr) (R : Nat) (w : World) : Prop where
  env : Env w E
  ref : RefOff w R
  turn : Turn (fun k => k = R) w0 w
  high : 8 ≤ R
theorem Dark.turned {w0 w w2 : World} {E : Nat → Addr} {R : Nat} (h : Dark w0 E R w) (hr : RefOff w2 R) (ht : Turn (fun k => k = R) w w2) : Dark w0 E R w2 :=
  ⟨h.env.turn ht (fun k hk e => by have := h.high; omega), hr, h.turn.trans ht (fun _ _ h => h), h.high⟩
theorem Dark.below {w0 w w2 : World} {E : Nat → Addr} {R : Nat} (h : Dark w0 E R w) (hb : Below w.heap.size w w2) : Dark w0 E R w2 :=
  ⟨env_below h.env hb, h.ref.below hb, h.turn.trans (S' := fun _ => False) (Turn.of_below hb) (fun _ _ h => h.elim), h.high⟩
theorem cell_held {w w2 : World} {a : Addr} {v : Value} (h : w.cell? a = some v) (hb : Below w.heap.size w w2) : w2.cell? a = some v := by
  rw [hb.cell (World.block_lt_of_cell? w a h)]; exact h
theorem held5 {w0 w w2 : World} {E : Nat → Addr} {R : Nat} {a b c d e : Addr} {v1 v2 v3 v4 v5 : Value} (h1 : w.cell? a = some v1) (h2 : w.cell? b = some v2) (h3 : w.cell? c = some v3) (h4 : w.cell? d = some v4) (h5 : w.cell? e = some v5) (h : Dark w0 E R w) (hb : Below w.heap.size w w2) :
    w2.cell? a = some v1 ∧ w2.cell? b = some v2 ∧ w2.cell? c = some v3 ∧ w2.cell? d = some v4 ∧ w2.cell? e = some v5 ∧ Dark w0 E R w2 :=
  ⟨cell_held h1 hb, cell_held h2 hb, cell_held h3 hb, cell_held h4 hb, cell_held h5 hb, h.below hb⟩

def opV (k : Int) (A B : ByteArray) (N M : Int) (pv dv : Value) (y : Bool) : Value := .agg #[.int .i64 k, .string A, .string B, .int .i64 N, .int .i64 M, pv, dv, .bool y]

set_option maxRecDepth 100000 in
set_option maxHeartbeats 2000000 in
theorem step1_off {w : World} {R : Nat} {E : Nat → Addr} (hd : Dark w E R w) (A B : ByteArray) (hA : A.size < 4611686018427387904) (hB : B.size < 4611686018427387904) (N M : Int) (pv dv : Value) (y : Bool) :
    Calls Tryz.prog 11 #[.pointer none, .pointer (some ⟨R, 0, none⟩), opV 1 A B N M pv dv y] w fun r w' => r = .returned (.bool true) ∧ Dark w E R w' := by
  have HD := Lib.hid hd
  have HA := Lib.hid hA
  have HB := Lib.hid hB
  clear hd hA hB
  unfold opV
  go_enter Tryz.func11, Tryz.ntmps11
  go_wp2_with fail
  obtain ⟨W, hW⟩ : ∃ W, W = w.alloc (.cells #[.int .i64 1, .string A, .string B, .int .i64 N, .int .i64 M, pv, dv, .bool y] 31) := ⟨_, rfl⟩
  rw [← hW]
  have hS : (∀ i, W.cell? ⟨w.heap.size, i, none⟩ = (#[.int .i64 1, .string A, .string B, .int .i64 N, .int .i64 M, pv, dv, .bool y] : Array Value)[i]?) ∧ Dark w E R W := by
    rw [hW]
    exact ⟨fun i => cell_of_row _ _ _ _ _ _ (heap_alloc_new w _), HD.out.below (below_alloc _ _)⟩
  obtain ⟨hc, hdk⟩ := hS
  have c1 : W.cell? ⟨w.heap.size, 1, none⟩ = some (.string A) := hc 1
  have c2 : W.cell? ⟨w.heap.size, 2, none⟩ = some (.string B) := hc 2
  have c3 : W.cell? ⟨w.heap.size, 3, none⟩ = some (.int .i64 N) := hc 3
  have c4 : W.cell? ⟨w.heap.size, 4, none⟩ = some (.int .i64 M) := hc 4
  have c5 : W.cell? ⟨w.heap.size, 5, none⟩ = some pv := hc 5
  clear hW hc
  go_region_held3 (fun w' => w'.cell? ⟨w.heap.size, 1, none⟩ = some (.string A) ∧ w'.cell? ⟨w.heap.size, 2, none⟩ = some (.string B) ∧ w'.cell? ⟨w.heap.size, 3, none⟩ = some (.int .i64 N) ∧ w'.cell? ⟨w.heap.size, 4, none⟩ = some (.int .i64 M) ∧ w'.cell? ⟨w.heap.size, 5, none⟩ = some pv ∧ Dark w E R w')
    ((go_split_ands; first | exact ⟨by assumption, by assumption, by assumption, by assumption, by assumption, by assumption⟩ | exact held5 (by assumption) (by assumption) (by assumption) (by assumption) (by assumption) (by assumption) (by assumption) | exact held5 (by assumption) (by assumption) (by assumption) (by assumption) (by assumption) (by assumption) (Below.refl _ _).drew))
    (first
      | (go_at_call 26; go_split_ands; ((with_reducible refine (Mkdir_nil (Dark.env (w0 := w) (R := R) (by assumption)) A).mono ?_); rintro r w2 ⟨v, rfl, hv, hb2⟩))
      | (go_at_call 25; go_split_ands; ((with_reducible refine (code_off (Dark.env (w0 := w) (R := R) (by assumption)) _ _ _ (by assumption)).mono ?_); rintro r w3 ⟨rfl, hb3⟩))
      | (go_at_call 27; go_split_ands; ((with_reducible refine (RMkdir_off (Dark.ref (w0 := w) (E := E) (by assumption)) A HA.out).mono ?_); rintro r w4 ⟨rfl, hb4⟩)))
  all_goals
    go_wp2
    go_ret
    refine ⟨rfl, ?_⟩
    go_split_ands
    first
      | assumption
      | exact Dark.below (by assumption) (by assumption)

set_option maxRecDepth 100000 in
set_option maxHeartbeats 2000000 in
theorem step2_off {w : World} {R : Nat} {E : Nat → Addr} (hd : Dark w E R w) (A B : ByteArray) (hA : A.size < 4611686018427387904) (hB : B.size < 4611686018427387904) (N M : Int) (pv dv : Value) (y : Bool) :
    Calls Tryz.prog 11 #[.pointer none, .pointer (some ⟨R, 0, none⟩), opV 2 A B N M pv dv y] w fun r w' => r = .returned (.bool true) ∧ Dark w E R w' := by
  have HD := Lib.hid hd
  have HA := Lib.hid hA
  have HB := Lib.hid hB
  clear hd hA hB
  unfold opV
  go_enter Tryz.func11, Tryz.ntmps11
  go_wp2_with fail
  obtain ⟨W, hW⟩ : ∃ W, W = w.alloc (.cells #[.int .i64 2, .string A, .string B, .int .i64 N, .int .i64 M, pv, dv, .bool y] 31) := ⟨_, rfl⟩
  rw [← hW]
  have hS : (∀ i, W.cell? ⟨w.heap.size, i, none⟩ = (#[.int .i64 2, .string A, .string B, .int .i64 N, .int .i64 M, pv, dv, .bool y] : Array Value)[i]?) ∧ Dark w E R W := by
    rw [hW]
    exact ⟨fun i => cell_of_row _ _ _ _ _ _ (heap_alloc_new w _), HD.out.below (below_alloc _ _)⟩
  obtain ⟨hc, hdk⟩ := hS
  have c1 : W.cell? ⟨w.heap.size, 1, none⟩ = some (.string A) := hc 1
  have c2 : W.cell? ⟨w.heap.size, 2, none⟩ = some (.string B) := hc 2
  have c3 : W.cell? ⟨w.heap.size, 3, none⟩ = some (.int .i64 N) := hc 3
  have c4 : W.cell? ⟨w.heap.size, 4, none⟩ = some (.int .i64 M) := hc 4
  have c5 : W.cell? ⟨w.heap.size, 5, none⟩ = some pv := hc 5
  clear hW hc
  go_region_held3 (fun w' => w'.cell? ⟨w.heap.size, 1, none⟩ = some (.string A) ∧ w'.cell? ⟨w.heap.size, 2, none⟩ = some (.string B) ∧ w'.cell? ⟨w.heap.size, 3, none⟩ = some (.int .i64 N) ∧ w'.cell? ⟨w.heap.size, 4, none⟩ = some (.int .i64 M) ∧ w'.cell? ⟨w.heap.size, 5, none⟩ = some pv ∧ Dark w E R w')
    ((go_split_ands; first | exact ⟨by assumption, by assumption, by assumption, by assumption, by assumption, by assumption⟩ | exact held5 (by assumption) (by assumption) (by assumption) (by assumption) (by assumption) (by assumption) (by assumption) | exact held5 (by assumption) (by assumption) (by assumption) (by assumption) (by assumption) (by assumption) (Below.refl _ _).drew))
    (first
      | (go_at_call 20; go_split_ands; ((with_reducible refine (Create_nil (Dark.env (w0 := w) (R := R) (by assumption)) A).mono ?_); rintro r w2 ⟨v, rfl, hv, hb2⟩))
      | (go_at_call 25; go_split_ands; ((with_reducible refine (code_off (Dark.env (w0 := w) (R := R) (by assumption)) _ _ _ (by assumption)).mono ?_); rintro r w3 ⟨rfl, hb3⟩))
      | (go_at_call 28; go_split_ands; ((with_reducible refine (RCreate_off (Dark.ref (w0 := w) (E := E) (by assumption)) A HA.out).mono ?_); rintro r w4 ⟨rfl, hb4⟩)))
  all_goals
    go_wp2
    go_ret
    refine ⟨rfl, ?_⟩
    go_split_ands
    first
      | assumption
      | exact Dark.below (by assumption) (by assumption)

set_option maxRecDepth 100000 in
set_option maxHeartbeats 2000000 in
theorem step4_off {w : World} {R : Nat} {E : Nat → Addr} (hd : Dark w E R w) (A B : ByteArray) (hA : A.size < 4611686018427387904) (hB : B.size < 4611686018427387904) (N M : Int) (pv dv : Value) (y : Bool) :
    Calls Tryz.prog 11 #[.pointer none, .pointer (some ⟨R, 0, none⟩), opV 4 A B N M pv dv y] w fun r w' => r = .returned (.bool true) ∧ Dark w E R w' := by
  have HD := Lib.hid hd
  have HA := Lib.hid hA
  have HB := Lib.hid hB
  clear hd hA hB
  unfold opV
  go_enter Tryz.func11, Tryz.ntmps11
  go_wp2_with fail
  obtain ⟨W, hW⟩ : ∃ W, W = w.alloc (.cells #[.int .i64 4, .string A, .string B, .int .i64 N, .int .i64 M, pv, dv, .bool y] 31) := ⟨_, rfl⟩
  rw [← hW]
  have hS : (∀ i, W.cell? ⟨w.heap.size, i, none⟩ = (#[.int .i64 4, .string A, .string B, .int .i64 N, .int .i64 M, pv, dv, .bool y] : Array Value)[i]?) ∧ Dark w E R W := by
    rw [hW]
    exact ⟨fun i => cell_of_row _ _ _ _ _ _ (heap_alloc_new w _), HD.out.below (below_alloc _ _)⟩
  obtain ⟨hc, hdk⟩ := hS
  have c1 : W.cell? ⟨w.heap.size, 1, none⟩ = some (.string A) := hc 1
  have c2 : W.cell? ⟨w.heap.size, 2, none⟩ = some (.string B) := hc 2
  have c3 : W.cell? ⟨w.heap.size, 3, none⟩ = some (.int .i64 N) := hc 3
  have c4 : W.cell? ⟨w.heap.size, 4, none⟩ = some (.int .i64 M) := hc 4
  have c5 : W.cell? ⟨w.heap.size, 5, none⟩ = some pv := hc 5
  clear hW hc
  go_region_held3 (fun w' => w'.cell? ⟨w.heap.size, 1, none⟩ = some (.string A) ∧ w'.cell? ⟨w.heap.size, 2, none⟩ = some (.string B) ∧ w'.cell? ⟨w.heap.size, 3, none⟩ = some (.int .i64 N) ∧ w'.cell? ⟨w.heap.size, 4, none⟩ = some (.int .i64 M) ∧ w'.cell? ⟨w.heap.size, 5, none⟩ = some pv ∧ Dark w E R w')
    ((go_split_ands; first | exact ⟨by assumption, by assumption, by assumption, by assumption, by assumption, by assumption⟩ | exact held5 (by assumption) (by assumption) (by assumption) (by assumption) (by assumption) (by assumption) (by assumption) | exact held5 (by assumption) (by assumption) (by assumption) (by assumption) (by assumption) (by assumption) (Below.refl _ _).drew))
    (first
      | (go_at_call 31; go_split_ands; ((with_reducible refine (Cut_nil (Dark.env (w0 := w) (R := R) (by assumption)) A N).mono ?_); rintro r w2 ⟨v, rfl, hv, hb2⟩))
      | (go_at_call 25; go_split_ands; ((with_reducible refine (code_off (Dark.env (w0 := w) (R := R) (by assumption)) _ _ _ (by assumption)).mono ?_); rintro r w3 ⟨rfl, hb3⟩))
      | (go_at_call 32; go_split_ands; ((with_reducible refine (RCut_off (Dark.ref (w0 := w) (E := E) (by assumption)) A HA.out N).mono ?_); rintro r w4 ⟨rfl, hb4⟩)))
  all_goals
    go_wp2
    go_ret
    refine ⟨rfl, ?_⟩
    go_split_ands
    first
      | assumption
      | exact Dark.below (by assumption) (by assumption)

set_option maxRecDepth 100000 in
set_option maxHeartbeats 2000000 in
theorem step5_off {w : World} {R : Nat} {E : Nat → Addr} (hd : Dark w E R w) (A B : ByteArray) (hA : A.size < 4611686018427387904) (hB : B.size < 4611686018427387904) (N M : Int) (pv dv : Value) (y : Bool) :
    Calls Tryz.prog 11 #[.pointer none, .pointer (some ⟨R, 0, none⟩), opV 5 A B N M pv dv y] w fun r w' => r = .returned (.bool true) ∧ Dark w E R w' := by
  have HD := Lib.hid hd
  have HA := Lib.hid hA
  have HB := Lib.hid hB
  clear hd hA hB
  unfold opV
  go_enter Tryz.func11, Tryz.ntmps11
  go_wp2_with fail
  obtain ⟨W, hW⟩ : ∃ W, W = w.alloc (.cells #[.int .i64 5, .string A, .string B, .int .i64 N, .int .i64 M, pv, dv, .bool y] 31) := ⟨_, rfl⟩
  rw [← hW]
  have hS : (∀ i, W.cell? ⟨w.heap.size, i, none⟩ = (#[.int .i64 5, .string A, .string B, .int .i64 N, .int .i64 M, pv, dv, .bool y] : Array Value)[i]?) ∧ Dark w E R W := by
    rw [hW]
    exact ⟨fun i => cell_of_row _ _ _ _ _ _ (heap_alloc_new w _), HD.out.below (below_alloc _ _)⟩
  obtain ⟨hc, hdk⟩ := hS
  have c1 : W.cell? ⟨w.heap.size, 1, none⟩ = some (.string A) := hc 1
  have c2 : W.cell? ⟨w.heap.size, 2, none⟩ = some (.string B) := hc 2
  have c3 : W.cell? ⟨w.heap.size, 3, none⟩ = some (.int .i64 N) := hc 3
  have c4 : W.cell? ⟨w.heap.size, 4, none⟩ = some (.int .i64 M) := hc 4
  have c5 : W.cell? ⟨w.heap.size, 5, none⟩ = some pv := hc 5
  clear hW hc
  go_region_held3 (fun w' => w'.cell? ⟨w.heap.size, 1, none⟩ = some (.string A) ∧ w'.cell? ⟨w.heap.size, 2, none⟩ = some (.string B) ∧ w'.cell? ⟨w.heap.size, 3, none⟩ = some (.int .i64 N) ∧ w'.cell? ⟨w.heap.size, 4, none⟩ = some (.int .i64 M) ∧ w'.cell? ⟨w.heap.size, 5, none⟩ = some pv ∧ Dark w E R w')
    ((go_split_ands; first | exact ⟨by assumption, by assumption, by assumption, by assumption, by assumption, by assumption⟩ | exact held5 (by assumption) (by assumption) (by assumption) (by assumption) (by assumption) (by assumption) (by assumption) | exact held5 (by assumption) (by assumption) (by assumption) (by assumption) (by assumption) (by assumption) (Below.refl _ _).drew))
    (first
      | (go_at_call 23; go_split_ands; ((with_reducible refine (Sync_nil (Dark.env (w0 := w) (R := R) (by assumption)) A).mono ?_); rintro r w2 ⟨v, rfl, hv, hb2⟩))
      | (go_at_call 25; go_split_ands; ((with_reducible refine (code_off (Dark.env (w0 := w) (R := R) (by assumption)) _ _ _ (by assumption)).mono ?_); rintro r w3 ⟨rfl, hb3⟩))
      | (go_at_call 33; go_split_ands; ((with_reducible refine (RSync_off (Dark.ref (w0 := w) (E := E) (by assumption)) A HA.out).mono ?_); rintro r w4 ⟨rfl, hb4⟩)))
  all_goals
    go_wp2
    go_ret
    refine ⟨rfl, ?_⟩
    go_split_ands
    first
      | assumption
      | exact Dark.below (by assumption) (by assumption)

set_option maxRecDepth 100000 in
set_option maxHeartbeats 2000000 in
theorem step6_off {w : World} {R : Nat} {E : Nat → Addr} (hd : Dark w E R w) (A B : ByteArray) (hA : A.size < 4611686018427387904) (hB : B.size < 4611686018427387904) (N M : Int) (pv dv : Value) (y : Bool) :
    Calls Tryz.prog 11 #[.pointer none, .pointer (some ⟨R, 0, none⟩), opV 6 A B N M pv dv y] w fun r w' => r = .returned (.bool true) ∧ Dark w E R w' := by
  have HD := Lib.hid hd
  have HA := Lib.hid hA
  have HB := Lib.hid hB
  clear hd hA hB
  unfold opV
  go_enter Tryz.func11, Tryz.ntmps11
  go_wp2_with fail
  obtain ⟨W, hW⟩ : ∃ W, W = w.alloc (.cells #[.int .i64 6, .string A, .string B, .int .i64 N, .int .i64 M, pv, dv, .bool y] 31) := ⟨_, rfl⟩
  rw [← hW]
  have hS : (∀ i, W.cell? ⟨w.heap.size, i, none⟩ = (#[.int .i64 6, .string A, .string B, .int .i64 N, .int .i64 M, pv, dv, .bool y] : Array Value)[i]?) ∧ Dark w E R W := by
    rw [hW]
    exact ⟨fun i => cell_of_row _ _ _ _ _ _ (heap_alloc_new w _), HD.out.below (below_alloc _ _)⟩
  obtain ⟨hc, hdk⟩ := hS
  have c1 : W.cell? ⟨w.heap.size, 1, none⟩ = some (.string A) := hc 1
  have c2 : W.cell? ⟨w.heap.size, 2, none⟩ = some (.string B) := hc 2
  have c3 : W.cell? ⟨w.heap.size, 3, none⟩ = some (.int .i64 N) := hc 3
  have c4 : W.cell? ⟨w.heap.size, 4, none⟩ = some (.int .i64 M) := hc 4
  have c5 : W.cell? ⟨w.heap.size, 5, none⟩ = some pv := hc 5
  clear hW hc
  go_wp2_with (first
    | (go_at_call 21; ((with_reducible refine (SyncNames_nil hdk.env).mono ?_); rintro r w2 ⟨v, rfl, hv, hb2⟩; have hd2 := hdk.below hb2))
    | (go_at_call 25; ((with_reducible refine (code_off hd2.env _ _ _ hv).mono ?_); rintro r w3 ⟨rfl, hb3⟩; have hd3 := hd2.below hb3))
    | (go_at_call 34; ((with_reducible refine (RSyncNames_off hd3.ref).mono ?_); rintro r w4 ⟨rfl, hb4⟩; have hd4 := hd3.below hb4)))
  all_goals
    go_ret
    refine ⟨rfl, ?_⟩
    go_split_ands
    first
      | assumption
      | exact Dark.below (by assumption) (by assumption)

set_option maxRecDepth 100000 in
set_option maxHeartbeats 2000000 in
theorem step7_off {w : World} {R : Nat} {E : Nat → Addr} (hd : Dark w E R w) (A B : ByteArray) (hA : A.size < 4611686018427387904) (hB : B.size < 4611686018427387904) (N M : Int) (pv dv : Value) (y : Bool) :
    Calls Tryz.prog 11 #[.pointer none, .pointer (some ⟨R, 0, none⟩), opV 7 A B N M pv dv y] w fun r w' => r = .returned (.bool true) ∧ Dark w E R w' := by
  have HD := Lib.hid hd
  have HA := Lib.hid hA
  have HB := Lib.hid hB
  clear hd hA hB
  unfold opV
  go_enter Tryz.func11, Tryz.ntmps11
  go_wp2_with fail
  obtain ⟨W, hW⟩ : ∃ W, W = w.alloc (.cells #[.int .i64 7, .string A, .string B, .int .i64 N, .int .i64 M, pv, dv, .bool y] 31) := ⟨_, rfl⟩
  rw [← hW]
  have hS : (∀ i, W.cell? ⟨w.heap.size, i, none⟩ = (#[.int .i64 7, .string A, .string B, .int .i64 N, .int .i64 M, pv, dv, .bool y] : Array Value)[i]?) ∧ Dark w E R W := by
    rw [hW]
    exact ⟨fun i => cell_of_row _ _ _ _ _ _ (heap_alloc_new w _), HD.out.below (below_alloc _ _)⟩
  obtain ⟨hc, hdk⟩ := hS
  have c1 : W.cell? ⟨w.heap.size, 1, none⟩ = some (.string A) := hc 1
  have c2 : W.cell? ⟨w.heap.size, 2, none⟩ = some (.string B) := hc 2
  have c3 : W.cell? ⟨w.heap.size, 3, none⟩ = some (.int .i64 N) := hc 3
  have c4 : W.cell? ⟨w.heap.size, 4, none⟩ = some (.int .i64 M) := hc 4
  have c5 : W.cell? ⟨w.heap.size, 5, none⟩ = some pv := hc 5
  clear hW hc
  go_region_held3 (fun w' => w'.cell? ⟨w.heap.size, 1, none⟩ = some (.string A) ∧ w'.cell? ⟨w.heap.size, 2, none⟩ = some (.string B) ∧ w'.cell? ⟨w.heap.size, 3, none⟩ = some (.int .i64 N) ∧ w'.cell? ⟨w.heap.size, 4, none⟩ = some (.int .i64 M) ∧ w'.cell? ⟨w.heap.size, 5, none⟩ = some pv ∧ Dark w E R w')
    ((go_split_ands; first | exact ⟨by assumption, by assumption, by assumption, by assumption, by assumption, by assumption⟩ | exact held5 (by assumption) (by assumption) (by assumption) (by assumption) (by assumption) (by assumption) (by assumption) | exact held5 (by assumption) (by assumption) (by assumption) (by assumption) (by assumption) (by assumption) (Below.refl _ _).drew))
    (first
      | (go_at_call 35; go_split_ands; ((with_reducible refine (Rename_nil (Dark.env (w0 := w) (R := R) (by assumption)) A B).mono ?_); rintro r w2 ⟨v, rfl, hv, hb2⟩))
      | (go_at_call 25; go_split_ands; ((with_reducible refine (code_off (Dark.env (w0 := w) (R := R) (by assumption)) _ _ _ (by assumption)).mono ?_); rintro r w3 ⟨rfl, hb3⟩))
      | (go_at_call 36; go_split_ands; ((with_reducible refine (RRename_off (Dark.ref (w0 := w) (E := E) (by assumption)) A HA.out B HB.out).mono ?_); rintro r w4 ⟨rfl, hb4⟩)))
  all_goals
    go_wp2
    go_ret
    refine ⟨rfl, ?_⟩
    go_split_ands
    first
      | assumption
      | exact Dark.below (by assumption) (by assumption)

set_option maxRecDepth 100000 in
set_option maxHeartbeats 2000000 in
theorem step8_off {w : World} {R : Nat} {E : Nat → Addr} (hd : Dark w E R w) (A B : ByteArray) (hA : A.size < 4611686018427387904) (hB : B.size < 4611686018427387904) (N M : Int) (pv dv : Value) (y : Bool) :
    Calls Tryz.prog 11 #[.pointer none, .pointer (some ⟨R, 0, none⟩), opV 8 A B N M pv dv y] w fun r w' => r = .returned (.bool true) ∧ Dark w E R w' := by
  have HD := Lib.hid hd
  have HA := Lib.hid hA
  have HB := Lib.hid hB
  clear hd hA hB
  unfold opV
  go_enter Tryz.func11, Tryz.ntmps11
  go_wp2_with fail
  obtain ⟨W, hW⟩ : ∃ W, W = w.alloc (.cells #[.int .i64 8, .string A, .string B, .int .i64 N, .int .i64 M, pv, dv, .bool y] 31) := ⟨_, rfl⟩
  rw [← hW]
  have hS : (∀ i, W.cell? ⟨w.heap.size, i, none⟩ = (#[.int .i64 8, .string A, .string B, .int .i64 N, .int .i64 M, pv, dv, .bool y] : Array Value)[i]?) ∧ Dark w E R W := by
    rw [hW]
    exact ⟨fun i => cell_of_row _ _ _ _ _ _ (heap_alloc_new w _), HD.out.below (below_alloc _ _)⟩
  obtain ⟨hc, hdk⟩ := hS
  have c1 : W.cell? ⟨w.heap.size, 1, none⟩ = some (.string A) := hc 1
  have c2 : W.cell? ⟨w.heap.size, 2, none⟩ = some (.string B) := hc 2
  have c3 : W.cell? ⟨w.heap.size, 3, none⟩ = some (.int .i64 N) := hc 3
  have c4 : W.cell? ⟨w.heap.size, 4, none⟩ = some (.int .i64 M) := hc 4
  have c5 : W.cell? ⟨w.heap.size, 5, none⟩ = some pv := hc 5
  clear hW hc
  go_region_held3 (fun w' => w'.cell? ⟨w.heap.size, 1, none⟩ = some (.string A) ∧ w'.cell? ⟨w.heap.size, 2, none⟩ = some (.string B) ∧ w'.cell? ⟨w.heap.size, 3, none⟩ = some (.int .i64 N) ∧ w'.cell? ⟨w.heap.size, 4, none⟩ = some (.int .i64 M) ∧ w'.cell? ⟨w.heap.size, 5, none⟩ = some pv ∧ Dark w E R w')
    ((go_split_ands; first | exact ⟨by assumption, by assumption, by assumption, by assumption, by assumption, by assumption⟩ | exact held5 (by assumption) (by assumption) (by assumption) (by assumption) (by assumption) (by assumption) (by assumption) | exact held5 (by assumption) (by assumption) (by assumption) (by assumption) (by assumption) (by assumption) (Below.refl _ _).drew))
    (first
      | (go_at_call 37; go_split_ands; ((with_reducible refine (Remove_nil (Dark.env (w0 := w) (R := R) (by assumption)) A).mono ?_); rintro r w2 ⟨v, rfl, hv, hb2⟩))
      | (go_at_call 25; go_split_ands; ((with_reducible refine (code_off (Dark.env (w0 := w) (R := R) (by assumption)) _ _ _ (by assumption)).mono ?_); rintro r w3 ⟨rfl, hb3⟩))
      | (go_at_call 38; go_split_ands; ((with_reducible refine (RRemove_off (Dark.ref (w0 := w) (E := E) (by assumption)) A HA.out).mono ?_); rintro r w4 ⟨rfl, hb4⟩)))
  all_goals
    go_wp2
    go_ret
    refine ⟨rfl, ?_⟩
    go_split_ands
    first
      | assumption
      | exact Dark.below (by assumption) (by assumption)

end Go.Proofs.YtbgogipdldegdaaGreatDoor.Disk

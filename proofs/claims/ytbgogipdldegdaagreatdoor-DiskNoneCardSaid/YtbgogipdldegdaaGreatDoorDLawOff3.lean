/-
  The law's step with a nil disk: Read, All, List; Crash and Flip. Own text.
-/
import Derived.Test.YtbgogipdldegdaaGreatDoorDLawOff2
namespace Go.Proofs.YtbgogipdldegdaaGreatDoor.Disk
open Go.RowKit Go Go.Proofs.YtbgogipdldegdaaGreatDoor.Base Go.Proofs.YtbgogipdldegdaaGreatDoor.Map

theorem ErrAt.below {w w2 : World} {E : Nat → Addr} {v : Value} {c : Nat} {op p : ByteArray} (h : ErrAt w E v c op p) (hb : Below w.heap.size w w2) : ErrAt w2 E v c op p := by
  rcases h with h | ⟨h1, B, h2, h3⟩
  · exact .inl h
  · exact .inr ⟨h1, B, h2, (hb.block B (Array.getElem?_eq_some_iff.1 h3).1).trans h3⟩

theorem listed_off {w : World} {R : Nat} {E : Nat → Addr} (hd : Dark w E R w) (A : ByteArray) (hA : A.size < 4611686018427387904) :
    Calls Tryz.prog 19 #[.pointer none, .pointer (some ⟨R, 0, none⟩), .string A] w fun r w' => r = .returned (.bool true) ∧ Below w.heap.size w w' := by
  have HD := Lib.hid hd
  have HA := Lib.hid hA
  clear hd hA
  go_enter Tryz.func19, Tryz.ntmps19
  go_wp2_with (first
    | (go_at_call 17; ((with_reducible refine (List_nil HD.out.env A).mono ?_); rintro r w2 ⟨v, rfl, hv, hb2⟩; have hd2 := HD.out.below hb2))
    | (go_at_call 18; ((with_reducible refine (RList_off hd2.ref A HA.out).mono ?_); rintro r w3 ⟨rfl, hb3⟩; have hd3 := hd2.below hb3; have hv3 : ErrAt w3 E v 1 _ _ := ErrAt.below hv hb3))
    | (go_at_call 25; ((with_reducible refine (code_off hd3.env _ _ _ hv3).mono ?_); rintro r w4 ⟨rfl, hb4⟩; have hd4 := hd3.below hb4)))
  refine wp_loop_rounds 1 ?_
  rw [rounds_succ]
  go_wp2
  go_ret
  have q := hb2.trans (hb3.mono hb2.size)
  exact ⟨rfl, q.trans (hb4.mono q.size)⟩

set_option maxRecDepth 100000 in
set_option maxHeartbeats 2000000 in
theorem step9_off {w : World} {R : Nat} {E : Nat → Addr} (hd : Dark w E R w) (A B : ByteArray) (hA : A.size < 4611686018427387904) (hB : B.size < 4611686018427387904) (N M : Int) (pv dv : Value) (y : Bool) :
    Calls Tryz.prog 11 #[.pointer none, .pointer (some ⟨R, 0, none⟩), opV 9 A B N M pv dv y] w fun r w' => r = .returned (.bool true) ∧ Dark w E R w' := by
  have HD := Lib.hid hd
  have HA := Lib.hid hA
  have HB := Lib.hid hB
  clear hd hA hB
  unfold opV
  go_enter Tryz.func11, Tryz.ntmps11
  go_wp2_with fail
  obtain ⟨W, hW⟩ : ∃ W, W = w.alloc (.cells #[.int .i64 9, .string A, .string B, .int .i64 N, .int .i64 M, pv, dv, .bool y] 31) := ⟨_, rfl⟩
  rw [← hW]
  have hS : (∀ i, W.cell? ⟨w.heap.size, i, none⟩ = (#[.int .i64 9, .string A, .string B, .int .i64 N, .int .i64 M, pv, dv, .bool y] : Array Value)[i]?) ∧ Dark w E R W := by
    rw [hW]
    exact ⟨fun i => cell_of_row _ _ _ _ _ _ (heap_alloc_new w _), HD.out.below (below_alloc _ _)⟩
  obtain ⟨hc, hdk⟩ := hS
  have c1 : W.cell? ⟨w.heap.size, 1, none⟩ = some (.string A) := hc 1
  have c2 : W.cell? ⟨w.heap.size, 2, none⟩ = some (.string B) := hc 2
  have c3 : W.cell? ⟨w.heap.size, 3, none⟩ = some (.int .i64 N) := hc 3
  have c4 : W.cell? ⟨w.heap.size, 4, none⟩ = some (.int .i64 M) := hc 4
  have c5 : W.cell? ⟨w.heap.size, 5, none⟩ = some pv := hc 5
  clear hW hc
  go_wp2_with (first
    | (go_at_call 39; ((with_reducible refine (Read_nil hdk.env A N M).mono ?_); rintro r w2 ⟨v, rfl, hv, hb2⟩; have hd2 := hdk.below hb2; have e1 := cell_held c1 hb2; have e3 := cell_held c3 hb2; have e4 := cell_held c4 hb2))
    | (go_at_call 40; ((with_reducible refine (RRead_off hd2.ref A HA.out N M).mono ?_); rintro r w3 ⟨rfl, hb3⟩; have hd3 := hd2.below hb3; have hv3 : ErrAt w3 E v 1 _ _ := ErrAt.below hv hb3; have e5 := cell_held e1 hb3))
    | (go_at_call 25; ((with_reducible refine (code_off hd3.env _ _ _ hv3).mono ?_); rintro r w4 ⟨rfl, hb4⟩; have hd4 := hd3.below hb4)))
  go_ret
  exact ⟨rfl, hd4⟩

set_option maxRecDepth 100000 in
set_option maxHeartbeats 2000000 in
theorem step10_off {w : World} {R : Nat} {E : Nat → Addr} (hd : Dark w E R w) (A B : ByteArray) (hA : A.size < 4611686018427387904) (hB : B.size < 4611686018427387904) (N M : Int) (pv dv : Value) (y : Bool) :
    Calls Tryz.prog 11 #[.pointer none, .pointer (some ⟨R, 0, none⟩), opV 10 A B N M pv dv y] w fun r w' => r = .returned (.bool true) ∧ Dark w E R w' := by
  have HD := Lib.hid hd
  have HA := Lib.hid hA
  have HB := Lib.hid hB
  clear hd hA hB
  unfold opV
  go_enter Tryz.func11, Tryz.ntmps11
  go_wp2_with fail
  obtain ⟨W, hW⟩ : ∃ W, W = w.alloc (.cells #[.int .i64 10, .string A, .string B, .int .i64 N, .int .i64 M, pv, dv, .bool y] 31) := ⟨_, rfl⟩
  rw [← hW]
  have hS : (∀ i, W.cell? ⟨w.heap.size, i, none⟩ = (#[.int .i64 10, .string A, .string B, .int .i64 N, .int .i64 M, pv, dv, .bool y] : Array Value)[i]?) ∧ Dark w E R W := by
    rw [hW]
    exact ⟨fun i => cell_of_row _ _ _ _ _ _ (heap_alloc_new w _), HD.out.below (below_alloc _ _)⟩
  obtain ⟨hc, hdk⟩ := hS
  have c1 : W.cell? ⟨w.heap.size, 1, none⟩ = some (.string A) := hc 1
  have c2 : W.cell? ⟨w.heap.size, 2, none⟩ = some (.string B) := hc 2
  have c3 : W.cell? ⟨w.heap.size, 3, none⟩ = some (.int .i64 N) := hc 3
  have c4 : W.cell? ⟨w.heap.size, 4, none⟩ = some (.int .i64 M) := hc 4
  have c5 : W.cell? ⟨w.heap.size, 5, none⟩ = some pv := hc 5
  clear hW hc
  go_wp2_with (first
    | (go_at_call 24; ((with_reducible refine (All_nil hdk.env A).mono ?_); rintro r w2 ⟨v, rfl, hv, hb2⟩; have hd2 := hdk.below hb2; have e1 := cell_held c1 hb2; have e3 := cell_held c3 hb2; have e4 := cell_held c4 hb2))
    | (go_at_call 41; ((with_reducible refine (RAll_off hd2.ref A HA.out).mono ?_); rintro r w3 ⟨rfl, hb3⟩; have hd3 := hd2.below hb3; have hv3 : ErrAt w3 E v 1 _ _ := ErrAt.below hv hb3; have e5 := cell_held e1 hb3))
    | (go_at_call 25; ((with_reducible refine (code_off hd3.env _ _ _ hv3).mono ?_); rintro r w4 ⟨rfl, hb4⟩; have hd4 := hd3.below hb4)))
  go_ret
  exact ⟨rfl, hd4⟩

set_option maxRecDepth 100000 in
set_option maxHeartbeats 2000000 in
theorem step11_off {w : World} {R : Nat} {E : Nat → Addr} (hd : Dark w E R w) (A B : ByteArray) (hA : A.size < 4611686018427387904) (hB : B.size < 4611686018427387904) (N M : Int) (pv dv : Value) (y : Bool) :
    Calls Tryz.prog 11 #[.pointer none, .pointer (some ⟨R, 0, none⟩), opV 11 A B N M pv dv y] w fun r w' => r = .returned (.bool true) ∧ Dark w E R w' := by
  have HD := Lib.hid hd
  have HA := Lib.hid hA
  have HB := Lib.hid hB
  clear hd hA hB
  unfold opV
  go_enter Tryz.func11, Tryz.ntmps11
  go_wp2_with fail
  obtain ⟨W, hW⟩ : ∃ W, W = w.alloc (.cells #[.int .i64 11, .string A, .string B, .int .i64 N, .int .i64 M, pv, dv, .bool y] 31) := ⟨_, rfl⟩
  rw [← hW]
  have hS : (∀ i, W.cell? ⟨w.heap.size, i, none⟩ = (#[.int .i64 11, .string A, .string B, .int .i64 N, .int .i64 M, pv, dv, .bool y] : Array Value)[i]?) ∧ Dark w E R W := by
    rw [hW]
    exact ⟨fun i => cell_of_row _ _ _ _ _ _ (heap_alloc_new w _), HD.out.below (below_alloc _ _)⟩
  obtain ⟨hc, hdk⟩ := hS
  have c1 : W.cell? ⟨w.heap.size, 1, none⟩ = some (.string A) := hc 1
  have c2 : W.cell? ⟨w.heap.size, 2, none⟩ = some (.string B) := hc 2
  have c3 : W.cell? ⟨w.heap.size, 3, none⟩ = some (.int .i64 N) := hc 3
  have c4 : W.cell? ⟨w.heap.size, 4, none⟩ = some (.int .i64 M) := hc 4
  have c5 : W.cell? ⟨w.heap.size, 5, none⟩ = some pv := hc 5
  clear hW hc
  go_wp2_with (go_at_call 19; ((with_reducible refine (listed_off (w := W) ⟨hdk.env, hdk.ref, Turn.refl _ _, hdk.high⟩ A HA.out).mono ?_); rintro r w2 ⟨rfl, hb2⟩; have hd2 := hdk.below hb2))
  go_ret
  exact ⟨rfl, hd2⟩

set_option maxRecDepth 100000 in
set_option maxHeartbeats 2000000 in
theorem power12_off {w : World} {R : Nat} {E : Nat → Addr} (hd : Dark w E R w) (A B : ByteArray) (hA : A.size < 4611686018427387904) (hB : B.size < 4611686018427387904) (N M : Int) (pv dv : Value) (y : Bool) :
    Calls Tryz.prog 42 #[.pointer none, .pointer (some ⟨R, 0, none⟩), opV 12 A B N M pv dv y] w fun r w' => r = .returned (.bool true) ∧ Dark w E R w' := by
  have HD := Lib.hid hd
  have HA := Lib.hid hA
  have HB := Lib.hid hB
  clear hd hA hB
  unfold opV
  go_enter Tryz.func42, Tryz.ntmps42
  go_wp2_with fail
  obtain ⟨W, hW⟩ : ∃ W, W = w.alloc (.cells #[.int .i64 12, .string A, .string B, .int .i64 N, .int .i64 M, pv, dv, .bool y] 31) := ⟨_, rfl⟩
  rw [← hW]
  have hS : (∀ i, W.cell? ⟨w.heap.size, i, none⟩ = (#[.int .i64 12, .string A, .string B, .int .i64 N, .int .i64 M, pv, dv, .bool y] : Array Value)[i]?) ∧ Dark w E R W := by
    rw [hW]
    exact ⟨fun i => cell_of_row _ _ _ _ _ _ (heap_alloc_new w _), HD.out.below (below_alloc _ _)⟩
  obtain ⟨hc, hdk⟩ := hS
  have c1 : W.cell? ⟨w.heap.size, 1, none⟩ = some (.string A) := hc 1
  have c2 : W.cell? ⟨w.heap.size, 2, none⟩ = some (.string B) := hc 2
  have c3 : W.cell? ⟨w.heap.size, 3, none⟩ = some (.int .i64 N) := hc 3
  have c4 : W.cell? ⟨w.heap.size, 4, none⟩ = some (.int .i64 M) := hc 4
  have c5 : W.cell? ⟨w.heap.size, 5, none⟩ = some pv := hc 5
  clear hW hc
  go_wp2_with (first
    | (go_at_call 77; refine (crash_nil N _).mono ?_; rintro r w2 ⟨rfl, rfl⟩)
    | (go_at_call 78; ((with_reducible refine (RCrash_off hdk.ref N).mono ?_); rintro r w3 ⟨rfl, hr3, ht3⟩)))
  go_ret
  exact ⟨rfl, hdk.turned hr3 ht3⟩

set_option maxRecDepth 100000 in
set_option maxHeartbeats 2000000 in
theorem power14_off {w : World} {R : Nat} {E : Nat → Addr} (hd : Dark w E R w) (A B : ByteArray) (hA : A.size < 4611686018427387904) (hB : B.size < 4611686018427387904) (N M : Int) (pv dv : Value) (y : Bool) :
    Calls Tryz.prog 42 #[.pointer none, .pointer (some ⟨R, 0, none⟩), opV 14 A B N M pv dv y] w fun r w' => r = .returned (.bool true) ∧ Dark w E R w' := by
  have HD := Lib.hid hd
  have HA := Lib.hid hA
  have HB := Lib.hid hB
  clear hd hA hB
  unfold opV
  go_enter Tryz.func42, Tryz.ntmps42
  go_wp2_with fail
  obtain ⟨W, hW⟩ : ∃ W, W = w.alloc (.cells #[.int .i64 14, .string A, .string B, .int .i64 N, .int .i64 M, pv, dv, .bool y] 31) := ⟨_, rfl⟩
  rw [← hW]
  have hS : (∀ i, W.cell? ⟨w.heap.size, i, none⟩ = (#[.int .i64 14, .string A, .string B, .int .i64 N, .int .i64 M, pv, dv, .bool y] : Array Value)[i]?) ∧ Dark w E R W := by
    rw [hW]
    exact ⟨fun i => cell_of_row _ _ _ _ _ _ (heap_alloc_new w _), HD.out.below (below_alloc _ _)⟩
  obtain ⟨hc, hdk⟩ := hS
  have c1 : W.cell? ⟨w.heap.size, 1, none⟩ = some (.string A) := hc 1
  have c2 : W.cell? ⟨w.heap.size, 2, none⟩ = some (.string B) := hc 2
  have c3 : W.cell? ⟨w.heap.size, 3, none⟩ = some (.int .i64 N) := hc 3
  have c4 : W.cell? ⟨w.heap.size, 4, none⟩ = some (.int .i64 M) := hc 4
  have c5 : W.cell? ⟨w.heap.size, 5, none⟩ = some pv := hc 5
  clear hW hc
  go_region_held3 (fun w' => w'.cell? ⟨w.heap.size, 1, none⟩ = some (.string A) ∧ w'.cell? ⟨w.heap.size, 2, none⟩ = some (.string B) ∧ w'.cell? ⟨w.heap.size, 3, none⟩ = some (.int .i64 N) ∧ w'.cell? ⟨w.heap.size, 4, none⟩ = some (.int .i64 M) ∧ w'.cell? ⟨w.heap.size, 5, none⟩ = some pv ∧ Dark w E R w')
    ((go_split_ands; first | exact ⟨by assumption, by assumption, by assumption, by assumption, by assumption, by assumption⟩ | exact held5 (by assumption) (by assumption) (by assumption) (by assumption) (by assumption) (by assumption) (by assumption) | exact held5 (by assumption) (by assumption) (by assumption) (by assumption) (by assumption) (by assumption) (Below.refl _ _).drew))
    (first
      | (go_at_call 79; go_split_ands; ((with_reducible refine (Flip_nil (Dark.env (w0 := w) (R := R) (by assumption)) A _ _).mono ?_); rintro r w2 ⟨v, rfl, hv, hb2⟩))
      | (go_at_call 25; go_split_ands; ((with_reducible refine (code_off (Dark.env (w0 := w) (R := R) (by assumption)) _ _ _ (by assumption)).mono ?_); rintro r w3 ⟨rfl, hb3⟩))
      | (go_at_call 80; go_split_ands; ((with_reducible refine (RFlip_off (Dark.ref (w0 := w) (E := E) (by assumption)) A HA.out _ _).mono ?_); rintro r w4 ⟨rfl, hb4⟩)))
  all_goals
    go_wp2
    go_ret
    refine ⟨rfl, ?_⟩
    go_split_ands
    first
      | assumption
      | exact Dark.below (by assumption) (by assumption)

set_option maxRecDepth 100000 in
set_option maxHeartbeats 2000000 in
theorem powerX_off {w : World} {R : Nat} {E : Nat → Addr} (hd : Dark w E R w) (k : Int) (k1 : k ≠ 12) (k2 : k ≠ 13) (k3 : k ≠ 14) (A B : ByteArray) (hA : A.size < 4611686018427387904) (hB : B.size < 4611686018427387904) (N M : Int) (pv dv : Value) (y : Bool) :
    Calls Tryz.prog 42 #[.pointer none, .pointer (some ⟨R, 0, none⟩), opV k A B N M pv dv y] w fun r w' => r = .returned (.bool true) ∧ Dark w E R w' := by
  have HD := Lib.hid hd
  have HA := Lib.hid hA
  have HB := Lib.hid hB
  clear hd hA hB
  unfold opV
  go_enter Tryz.func42, Tryz.ntmps42
  go_wp2_with fail
  obtain ⟨W, hW⟩ : ∃ W, W = w.alloc (.cells #[.int .i64 k, .string A, .string B, .int .i64 N, .int .i64 M, pv, dv, .bool y] 31) := ⟨_, rfl⟩
  rw [← hW]
  have hS : (∀ i, W.cell? ⟨w.heap.size, i, none⟩ = (#[.int .i64 k, .string A, .string B, .int .i64 N, .int .i64 M, pv, dv, .bool y] : Array Value)[i]?) ∧ Dark w E R W := by
    rw [hW]
    exact ⟨fun i => cell_of_row _ _ _ _ _ _ (heap_alloc_new w _), HD.out.below (below_alloc _ _)⟩
  obtain ⟨hc, hdk⟩ := hS
  have c1 : W.cell? ⟨w.heap.size, 1, none⟩ = some (.string A) := hc 1
  have c2 : W.cell? ⟨w.heap.size, 2, none⟩ = some (.string B) := hc 2
  have c3 : W.cell? ⟨w.heap.size, 3, none⟩ = some (.int .i64 N) := hc 3
  have c4 : W.cell? ⟨w.heap.size, 4, none⟩ = some (.int .i64 M) := hc 4
  have c5 : W.cell? ⟨w.heap.size, 5, none⟩ = some pv := hc 5
  clear hW hc
  go_wp2
  go_ret
  exact ⟨rfl, hdk⟩

set_option maxRecDepth 100000 in
set_option maxHeartbeats 2000000 in
theorem stepP_off {w : World} {R : Nat} {E : Nat → Addr} (pv dv : Value) (y : Bool) (A B : ByteArray) (N M : Int) (hd : Dark w E R w) (k : Int) (hk : k ≠ 1 ∧ k ≠ 2 ∧ k ≠ 3 ∧ k ≠ 4 ∧ k ≠ 5 ∧ k ≠ 6 ∧ k ≠ 7 ∧ k ≠ 8 ∧ k ≠ 9 ∧ k ≠ 10 ∧ k ≠ 11) (hp : ∀ W, Dark W E R W → Calls Tryz.prog 42 #[.pointer none, .pointer (some ⟨R, 0, none⟩), opV k A B N M pv dv y] W fun r w' => r = .returned (.bool true) ∧ Dark W E R w') (hA : A.size < 4611686018427387904) (hB : B.size < 4611686018427387904) :
    Calls Tryz.prog 11 #[.pointer none, .pointer (some ⟨R, 0, none⟩), opV k A B N M pv dv y] w fun r w' => r = .returned (.bool true) ∧ Dark w E R w' := by
  have HD := Lib.hid hd
  have HA := Lib.hid hA
  have HB := Lib.hid hB
  clear hd hA hB
  obtain ⟨n1, n2, n3, n4, n5, n6, n7, n8, n9, n10, n11⟩ := hk
  unfold opV at hp ⊢
  have HPW := Lib.hid hp
  clear hp
  go_enter Tryz.func11, Tryz.ntmps11
  go_wp2_with fail
  obtain ⟨W, hW⟩ : ∃ W, W = w.alloc (.cells #[.int .i64 k, .string A, .string B, .int .i64 N, .int .i64 M, pv, dv, .bool y] 31) := ⟨_, rfl⟩
  rw [← hW]
  have hS : (∀ i, W.cell? ⟨w.heap.size, i, none⟩ = (#[.int .i64 k, .string A, .string B, .int .i64 N, .int .i64 M, pv, dv, .bool y] : Array Value)[i]?) ∧ Dark w E R W := by
    rw [hW]
    exact ⟨fun i => cell_of_row _ _ _ _ _ _ (heap_alloc_new w _), HD.out.below (below_alloc _ _)⟩
  obtain ⟨hc, hdk⟩ := hS
  have c0 : W.cell? ⟨w.heap.size, 0, none⟩ = some (.int .i64 k) := hc 0
  have c6 : W.cell? ⟨w.heap.size, 6, none⟩ = some dv := hc 6
  have c7 : W.cell? ⟨w.heap.size, 7, none⟩ = some (.bool y) := hc 7
  have c1 : W.cell? ⟨w.heap.size, 1, none⟩ = some (.string A) := hc 1
  have c2 : W.cell? ⟨w.heap.size, 2, none⟩ = some (.string B) := hc 2
  have c3 : W.cell? ⟨w.heap.size, 3, none⟩ = some (.int .i64 N) := hc 3
  have c4 : W.cell? ⟨w.heap.size, 4, none⟩ = some (.int .i64 M) := hc 4
  have c5 : W.cell? ⟨w.heap.size, 5, none⟩ = some pv := hc 5
  clear hW hc
  go_wp2_with (go_at_call 42; ((with_reducible refine (HPW.out W ⟨hdk.env, hdk.ref, Turn.refl _ _, hdk.high⟩).mono ?_); rintro r w2 ⟨rfl, hd2⟩))
  go_ret
  exact ⟨rfl, hd2.env, hd2.ref, hdk.turn.trans hd2.turn (fun _ _ h => h), hdk.high⟩

end Go.Proofs.YtbgogipdldegdaaGreatDoor.Disk

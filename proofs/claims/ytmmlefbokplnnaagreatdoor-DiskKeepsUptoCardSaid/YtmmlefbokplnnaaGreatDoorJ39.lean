/-
  The texts NPower, NFlip, NPow2, NAny, NNew, NAlike, NWalk1, joined. Own text.
-/
import Derived.Test.YtmmlefbokplnnaaGreatDoorJ38
import Derived.Test.YtmmlefbokplnnaaGreatDoorJ21
set_option linter.unusedVariables false
set_option linter.unusedSimpArgs false
namespace Go.Proofs.YtmmlefbokplnnaaGreatDoor.Disk
open Go.RowKit Go Go.Proofs.YtmmlefbokplnnaaGreatDoor.Base Go.Proofs.YtmmlefbokplnnaaGreatDoor.Map

theorem IntsAt.low {w w' : World} {b0 : Nat} {ao : Option Addr} {l : List Int} (h : IntsAt w ao l) (hl : 0 < l.length → ∀ b off, ao = some ⟨b, off, none⟩ → b < b0) (hb : Below b0 w w') : IntsAt w' ao l := fun j hj => by
  obtain ⟨b, off, h1, h2, h3⟩ := h j hj
  refine ⟨b, off, h1, Nat.lt_of_lt_of_le h2 hb.size, ?_⟩
  rw [World.cell?_of_block (w := w) (hb.block b (hl (by omega) b off h1))]
  exact h3

section
variable {b0 D R P S : Nat} {E : Nat → Addr} {G : DiskG} {q : RefG} {m m0 m1 : M} {w W w1 w2 : World}

theorem kept7 {v1 v2 v3 v4 v5 v6 v7 : Value} (h1 : w1.cell? ⟨P, 1, none⟩ = some v1) (h2 : w1.cell? ⟨P, 2, none⟩ = some v2) (h3 : w1.cell? ⟨P, 3, none⟩ = some v3) (h4 : w1.cell? ⟨P, 4, none⟩ = some v4) (h5 : w1.cell? ⟨P, 5, none⟩ = some v5) (h6 : w1.cell? ⟨P, 6, none⟩ = some v6) (h7 : w1.cell? ⟨P, 7, none⟩ = some v7) (hk : Keeps P w1 w2) :
    w2.cell? ⟨P, 1, none⟩ = some v1 ∧ w2.cell? ⟨P, 2, none⟩ = some v2 ∧ w2.cell? ⟨P, 3, none⟩ = some v3 ∧ w2.cell? ⟨P, 4, none⟩ = some v4 ∧ w2.cell? ⟨P, 5, none⟩ = some v5 ∧ w2.cell? ⟨P, 6, none⟩ = some v6 ∧ w2.cell? ⟨P, 7, none⟩ = some v7 :=
  ⟨hk _ _ h1, hk _ _ h2, hk _ _ h3, hk _ _ h4, hk _ _ h5, hk _ _ h6, hk _ _ h7⟩

theorem d_crash (h : Pair b0 E D R P G q m W) (hr : Rel G m0 S) (n : Int) (hn : inI n) :
    Calls Tryz.prog 77 #[.pointer (some ⟨D, 0, none⟩), .int .i64 n] W fun r w' => r = .returned (.tuple #[]) ∧ ∃ G', Pair b0 E D R P G' q m w' ∧ Rel G' (m0.crash n) S ∧ Keeps P W w' ∧ Below b0 W w' := by
  refine (Crash_any h.disk n).mono fun r w' hh => ?_
  obtain ⟨h1, h2, h3⟩ := hh
  obtain ⟨p1, p2, _, p4⟩ := h.called h2 (h3.mono fun _ _ hk => .inl hk) (fun k hk => .inl hk)
  exact ⟨h1, _, p1, hr.crashed hn, p2, p4⟩
theorem r_crash (h : Pair b0 E D R P G q m0 W) (n : Int) :
    Calls Tryz.prog 78 #[.pointer (some ⟨R, 0, none⟩), .int .i64 n] W fun r w' => r = .returned (.tuple #[]) ∧ Pair b0 E D R P G q (m0.crash n) w' ∧ Below b0 W w' := by
  refine (Crash_ref h.ref n).mono fun r w' hh => ?_
  obtain ⟨h1, h2⟩ := hh
  obtain ⟨p1, _, _, p4⟩ := h.reffed h2
  exact ⟨h1, p1, p4⟩

theorem d_restart (h : Pair b0 E D R P G q m W) (hr : Rel G m0 S) (hS : S ≤ 1048576) (names : Int) (hn : inI names) (data : List Int) (vd : Value) (hd : W.ownsRow 0 3 1 vd data.length (ints data)) (hdl : data.length ≤ 1048576) (hdi : ∀ x ∈ data, inI x) (z : Bool) :
    Calls Tryz.prog 13 #[.pointer (some ⟨D, 0, none⟩), .int .i64 names, vd, .bool z] W fun r w' => r = .returned (.tuple #[]) ∧ ∃ G', Pair b0 E D R P G' q m w' ∧ Rel G' (m0.restart names data z) S ∧ Keeps P W w' ∧ Below b0 W w' := by
  refine (restart_any h.disk h.env.env h.own8 (hr.slen hS) hr.hfit names hn data vd hd (by omega) hdi z S (by omega) (fun p hp => ?_) (hr.plain hS names)).mono fun r w' hh => ?_
  · obtain ⟨i, hi, rfl⟩ := List.getElem_of_mem hp
    obtain ⟨g1, g2, g3⟩ := hr.good i (by rw [← hr.len]; exact hi)
    rw [← pfAt_eq hi] at g1 g2 g3
    exact ⟨g1, by omega, by omega⟩
  · obtain ⟨h1, gd', F, dl, dx, G', k1, k2, k3, k4, k5, k6, k7⟩ := hh
    obtain ⟨p1, p2, _, p4⟩ := h.called k5 k6 k7
    exact ⟨h1, G', p1, hr.restarted names data z k1 k2 k3 k4, p2, p4⟩
theorem r_restart {G0 : DiskG} (h : Pair b0 E D R P G q m0 W) (hr : Rel G0 m0 S) (hS : S ≤ 1048576) (names : Int) (hn : inI names) (data : List Int) (da : Option Addr) (dc : Nat) (hd : IntsAt W da data) (hlow : 0 < data.length → ∀ b off, da = some ⟨b, off, none⟩ → b < b0) (hdl : data.length ≤ 1048576) (hdi : ∀ x ∈ data, inI x) (z : Bool) :
    Calls Tryz.prog 14 #[.pointer (some ⟨R, 0, none⟩), .int .i64 names, .slice da data.length dc, .bool z] W fun r w' => r = .returned (.tuple #[]) ∧ ∃ q', Pair b0 E D R P G q' (m0.restart names data z) w' ∧ Below b0 W w' := by
  refine (Restart_ref h.ref (hr.lim hS) (hr.limR hS) names hn data da dc hd (fun h0 b off e ho => by have := hlow h0 b off e; have := h.rnew b ho; omega) (by omega) hdi z).mono fun r w' hh => ?_
  obtain ⟨h1, q', h2⟩ := hh
  obtain ⟨p1, _, _, p4⟩ := h.reffed h2
  exact ⟨h1, q', p1, p4⟩

set_option maxRecDepth 100000 in
set_option maxHeartbeats 4000000 in
theorem powerX_on (h : Pair b0 E D R P G q m w) (hr : Rel G m S) (k : Int) (k1 : k ≠ 12) (k2 : k ≠ 13) (k3 : k ≠ 14) (A B : ByteArray) (N K : Int) (pv dv : Value) (y : Bool) :
    Calls Tryz.prog 42 #[.pointer (some ⟨D, 0, none⟩), .pointer (some ⟨R, 0, none⟩), opW k A B N K pv dv y] w fun r w' => r = .returned (.bool true) ∧ Went b0 E D R w m S w' := by
  obtain ⟨hp1, hb1⟩ := h.boxed #[.int .i64 k, .string A, .string B, .int .i64 N, .int .i64 K, pv, dv, .bool y]
  have HP := Lib.hid hp1
  have HB := Lib.hid hb1
  have HR := Lib.hid hr
  clear h hr hp1 hb1
  unfold opW
  go_enter Tryz.func42, Tryz.ntmps42
  go_wp2
  go_ret
  exact ⟨rfl, _, _, HP.out.free, HR.out, HB.out⟩

set_option maxRecDepth 100000 in
set_option maxHeartbeats 4000000 in
theorem power12_on (h : Pair b0 E D R P G q m w) (hr : Rel G m S) (A B : ByteArray) (N K : Int) (hN : inI N) (pv dv : Value) (y : Bool) :
    Calls Tryz.prog 42 #[.pointer (some ⟨D, 0, none⟩), .pointer (some ⟨R, 0, none⟩), opW 12 A B N K pv dv y] w fun r w' => r = .returned (.bool true) ∧ Went b0 E D R w (m.crash N) S w' := by
  have hD := fun (W : World) (hp : Pair b0 E D R w.heap.size G q m W) => d_crash hp hr N hN
  have hR := fun (G : DiskG) (W : World) (hp : Pair b0 E D R w.heap.size G q m W) => r_crash hp N
  obtain ⟨hp1, hb1⟩ := h.boxed #[.int .i64 12, .string A, .string B, .int .i64 N, .int .i64 K, pv, dv, .bool y]
  obtain ⟨W, hW⟩ : ∃ W, w.alloc (.cells #[.int .i64 12, .string A, .string B, .int .i64 N, .int .i64 K, pv, dv, .bool y] 31) = W := ⟨_, rfl⟩
  have hc : ∀ i, W.cell? ⟨w.heap.size, i, none⟩ = (#[.int .i64 12, .string A, .string B, .int .i64 N, .int .i64 K, pv, dv, .bool y] : Array Value)[i]? := fun i => by rw [← hW]; exact cell_of_row _ _ _ _ _ _ (heap_alloc_new w _)
  rw [hW] at hp1 hb1
  have HD := Lib.hid hD
  have HR := Lib.hid hR
  clear h hr hD hR
  unfold opW
  go_enter Tryz.func42, Tryz.ntmps42
  go_wp2_with fail
  have c3 : W.cell? ⟨w.heap.size, 3, none⟩ = some (.int .i64 N) := hc 3
  clear hc hW
  go_wp2_with (first
    | (go_at_call 77; ((with_reducible refine (HD.out _ hp1).mono ?_); rintro r w3 ⟨rfl, G', hp3, hr3, hk3, hb3⟩; have d3 := hk3 _ _ c3))
    | (go_at_call 78; ((with_reducible refine (HR.out _ _ hp3).mono ?_); rintro r w4 ⟨rfl, hp4, hb4⟩)))
  go_ret
  exact ⟨rfl, _, _, hp4.free, hr3, (hb1.trans hb3).trans hb4⟩

set_option maxRecDepth 100000 in
set_option maxHeartbeats 4000000 in
theorem power13_on (h : Pair b0 E D R P G q m w) (hr : Rel G m S) (hS : S ≤ 1048576) (A B : ByteArray) (N K : Int) (hN : inI N) (pv : Value) (data : List Int) (da : Option Addr) (dc : Nat) (hd : IntsAt w da data) (hlow : 0 < data.length → ∀ b off, da = some ⟨b, off, none⟩ → b < b0) (hdl : data.length ≤ 1048576) (hdi : ∀ x ∈ data, inI x) (y : Bool) :
    Calls Tryz.prog 42 #[.pointer (some ⟨D, 0, none⟩), .pointer (some ⟨R, 0, none⟩), opW 13 A B N K pv (.slice da data.length dc) y] w fun r w' => r = .returned (.bool true) ∧ Went b0 E D R w (m.restart N data y) S w' := by
  have hD := fun (W : World) (hp : Pair b0 E D R w.heap.size G q m W) (vd : Value) (hrow : W.ownsRow 0 3 1 vd data.length (ints data)) => d_restart hp hr hS N hN data vd hrow hdl hdi y
  have hR := fun (G : DiskG) (W : World) (hp : Pair b0 E D R w.heap.size G q m W) (hb : Below b0 w W) => r_restart hp hr hS N hN data da dc (hd.low hlow hb) hlow hdl hdi y
  obtain ⟨hp1, hb1⟩ := h.boxed #[.int .i64 13, .string A, .string B, .int .i64 N, .int .i64 K, pv, .slice da data.length dc, .bool y]
  obtain ⟨W, hW⟩ : ∃ W, w.alloc (.cells #[.int .i64 13, .string A, .string B, .int .i64 N, .int .i64 K, pv, .slice da data.length dc, .bool y] 31) = W := ⟨_, rfl⟩
  have hc : ∀ i, W.cell? ⟨w.heap.size, i, none⟩ = (#[.int .i64 13, .string A, .string B, .int .i64 N, .int .i64 K, pv, .slice da data.length dc, .bool y] : Array Value)[i]? := fun i => by rw [← hW]; exact cell_of_row _ _ _ _ _ _ (heap_alloc_new w _)
  rw [hW] at hp1 hb1
  obtain ⟨hp2, hk2, _, hbd⟩ := hp1.below (Below.refl _ _).drew
  obtain ⟨a1, c1, w1, hrun, hrow, hbw⟩ := copied_ints (ca := dc) (hd.low hlow (hb1.trans hbd)) hdl
  obtain ⟨hp3, hk3, _, hb3⟩ := hp2.below hbw
  have hDw := hD w1 hp3 _ hrow
  have HBB := Lib.hid ((hb1.trans hbd).trans hb3)
  obtain ⟨m1, hm1⟩ : ∃ m1, m.restart N data y = m1 := ⟨_, rfl⟩
  obtain ⟨LD, hLD⟩ : ∃ LD, data.length = LD := ⟨_, rfl⟩
  rw [hm1] at hDw hR ⊢
  rw [hLD] at hDw hR hrun hc hW ⊢
  have HD := Lib.hid hDw
  have HR := Lib.hid hR
  have HRun := Lib.hid hrun
  have x3 : W.drew.cell? ⟨w.heap.size, 3, none⟩ = some (.int .i64 N) := hk2 _ _ (hc 3)
  have x6 : W.drew.cell? ⟨w.heap.size, 6, none⟩ = some (.slice da LD dc) := hk2 _ _ (hc 6)
  have x7 : W.drew.cell? ⟨w.heap.size, 7, none⟩ = some (.bool y) := hk2 _ _ (hc 7)
  have x0 : W.cell? ⟨w.heap.size, 0, none⟩ = some (.int .i64 13) := hc 0
  have y3 := hk3 _ _ x3
  have y6 := hk3 _ _ x6
  have y7 := hk3 _ _ x7
  clear h hr hD hR hDw hrun hc hp1 hp2 hp3 hk2 hk3 hb1 hbd hb3 hrow hbw hd hlow hdi hm1 hLD
  unfold opW
  go_enter Tryz.func42, Tryz.ntmps42
  go_wp2_with fail
  clear hW
  go_region_law (first
    | (refine Row.step_by rfl (.const (.slice none 0 0)) (.tmp 25) _ rfl _ _ rfl rfl HRun.out ?_)
    | (go_simp; go_at_call 13; ((with_reducible refine HD.out.mono ?_); rintro r w3 ⟨rfl, G', hp4, hr4, hk4, hb4⟩; have z3 := hk4 _ _ y3; have z6 := hk4 _ _ y6; have z7 := hk4 _ _ y7)))
  all_goals
    go_wp2_with (go_at_call 14; ((with_reducible refine (HR.out _ _ hp4 (HBB.out.trans hb4)).mono ?_); rintro r w5 ⟨rfl, q', hp5, hb5⟩))
    go_ret
    exact ⟨rfl, _, _, hp5.free, hr4, (HBB.out.trans hb4).trans hb5⟩

end
end Go.Proofs.YtmmlefbokplnnaaGreatDoor.Disk

namespace Go.Proofs.YtmmlefbokplnnaaGreatDoor.Disk
open Go.RowKit Go Go.Proofs.YtmmlefbokplnnaaGreatDoor.Base Go.Proofs.YtmmlefbokplnnaaGreatDoor.Map

theorem u8w (K : Int) : ∃ k : Nat, k < 256 ∧ IntKind.u8.wrap K = (k : Int) := by
  refine ⟨(IntKind.u8.wrap K).toNat, ?_, ?_⟩ <;>
  · have : IntKind.u8.wrap K = K % 256 := by
      first | rfl | (simp [IntKind.wrap])
    omega

section
variable {b0 D R P S : Nat} {E : Nat → Addr} {G : DiskG} {q : RefG} {m m0 m1 : M} {w W w1 w2 : World}

set_option maxRecDepth 100000 in
set_option maxHeartbeats 4000000 in
theorem power14_on (h : Pair b0 E D R P G q m w) (hr : Rel G m S) (hS : S ≤ 1048576) (A B : ByteArray) (hA : A.size < 4294967281) (N K : Int) (hN : inI N) (k : Nat) (hk : k < 256) (hu : IntKind.u8.wrap K = (k : Int)) (pv dv : Value) (y : Bool) :
    Calls Tryz.prog 42 #[.pointer (some ⟨D, 0, none⟩), .pointer (some ⟨R, 0, none⟩), opW 14 A B N K pv dv y] w fun r w' => r = .returned (.bool true) ∧ Went b0 E D R w (m.flip A N k).2 S w' := by
  have hm := hr.lim hS
  have hn := hr.numsIn
  have hle := flip_le m A N k
  have hD := fun (q : RefG) (mm : M) (W : World) (hp : Pair b0 E D R w.heap.size G q mm W) => (d_flip hp hr hS A hA N k hk)
  have hR := fun (G : DiskG) (W : World) (hp : Pair b0 E D R w.heap.size G q m W) => (r_flip hp hm hn (fun i hi x hx => (hr.good i hi).1.ok.2 x (by rw [(hr.files i hi).now]; exact hx)) A hA N hN k hk)
  obtain ⟨hp1, hb1⟩ := h.boxed #[.int .i64 14, .string A, .string B, .int .i64 N, .int .i64 K, pv, dv, .bool y]
  obtain ⟨W, hW⟩ : ∃ W, w.alloc (.cells #[.int .i64 14, .string A, .string B, .int .i64 N, .int .i64 K, pv, dv, .bool y] 31) = W := ⟨_, rfl⟩
  have hc : ∀ i, W.cell? ⟨w.heap.size, i, none⟩ = (#[.int .i64 14, .string A, .string B, .int .i64 N, .int .i64 K, pv, dv, .bool y] : Array Value)[i]? := fun i => by rw [← hW]; exact cell_of_row _ _ _ _ _ _ (heap_alloc_new w _)
  rw [hW] at hp1 hb1
  obtain ⟨c, hcc⟩ : ∃ c, (m.flip A N k).1 = c := ⟨_, rfl⟩
  obtain ⟨m1, hm1⟩ : ∃ m1, (m.flip A N k).2 = m1 := ⟨_, rfl⟩
  rw [hcc] at hle hD hR
  rw [hm1] at hD hR ⊢
  rw [← hu] at hD hR
  have HD := Lib.hid hD
  have HR := Lib.hid hR
  have HB := Lib.hid hb1
  have HW := Lib.hid hW
  clear h hr hm hn hD hR hb1 hcc hm1 hu
  unfold opW
  go_enter Tryz.func42, Tryz.ntmps42
  go_wp2_with fail
  have c1 : W.cell? ⟨w.heap.size, 1, none⟩ = some (.string A) := hc 1
  have c2 : W.cell? ⟨w.heap.size, 2, none⟩ = some (.string B) := hc 2
  have c3 : W.cell? ⟨w.heap.size, 3, none⟩ = some (.int .i64 N) := hc 3
  have c4 : W.cell? ⟨w.heap.size, 4, none⟩ = some (.int .i64 K) := hc 4
  have c5 : W.cell? ⟨w.heap.size, 5, none⟩ = some pv := hc 5
  obtain ⟨hp2, hk2, _, hb2⟩ := hp1.below (Below.refl _ _).drew
  have HB2 := Lib.hid (HB.out.trans hb2)
  clear hc hW hp1 hb2
  go_region_held3 (fun w' => w'.cell? ⟨w.heap.size, 1, none⟩ = some (.string A) ∧ w'.cell? ⟨w.heap.size, 2, none⟩ = some (.string B) ∧ w'.cell? ⟨w.heap.size, 3, none⟩ = some (.int .i64 N) ∧ w'.cell? ⟨w.heap.size, 4, none⟩ = some (.int .i64 K) ∧ w'.cell? ⟨w.heap.size, 5, none⟩ = some pv)
    ((go_split_ands; first | exact ⟨by assumption, by assumption, by assumption, by assumption, by assumption⟩ | exact kept5 (by assumption) (by assumption) (by assumption) (by assumption) (by assumption) (by assumption)))
    (first
      | (go_at_call 79; go_split_ands; ((with_reducible refine (HD.out _ _ _ (by assumption)).mono ?_); rintro r w3 ⟨v, G', rfl, he, hp3, hr3, hk3, hb3⟩))
      | (go_at_call 25; go_split_ands; ((with_reducible refine (code_any (Pair.env (by assumption)) _ c hle _ _ (by assumption)).mono ?_); rintro r w4 ⟨rfl, hb4⟩; obtain ⟨hp4, hk4, he4, hbb4⟩ := Pair.below (b0 := b0) (E := E) (D := D) (R := R) (P := w.heap.size) (by assumption) hb4))
      | (go_at_call 80; go_split_ands; ((with_reducible refine (HR.out _ _ (by assumption)).mono ?_); rintro r w5 ⟨rfl, q', hp5, hk5, he5, hb5⟩; (try have hv5 := he5 _ _ _ _ (by assumption)))))
  all_goals
    go_wp2
    go_ret
    exact ⟨rfl, _, _, Pair.free (by assumption), by assumption, ((HB2.out.trans hb3).trans hbb4).trans hb5⟩


end
end Go.Proofs.YtmmlefbokplnnaaGreatDoor.Disk

namespace Go.Proofs.YtmmlefbokplnnaaGreatDoor.Disk
open Go.RowKit Go Go.Proofs.YtmmlefbokplnnaaGreatDoor.Base Go.Proofs.YtmmlefbokplnnaaGreatDoor.Map

section
variable {b0 D R P S S1 : Nat} {E : Nat → Addr} {G : DiskG} {q : RefG} {m m0 m1 : M} {w W w1 w2 : World}

set_option maxRecDepth 100000 in
set_option maxHeartbeats 4000000 in
theorem step11_on (h : Pair b0 E D R P G q m w) (hr : Rel G m S) (hS : S ≤ 1048576) (A B : ByteArray) (hA : A.size < 4294967281) (N K : Int) (pv dv : Value) (y : Bool) :
    Calls Tryz.prog 11 #[.pointer (some ⟨D, 0, none⟩), .pointer (some ⟨R, 0, none⟩), opW 11 A B N K pv dv y] w fun r w' => r = .returned (.bool true) ∧ Went b0 E D R w m S w' := by
  have hL := fun (W : World) (hp : Pair b0 E D R w.heap.size G q m W) => listed_on hp hr hS A hA
  obtain ⟨hp1, hb1⟩ := h.boxed #[.int .i64 11, .string A, .string B, .int .i64 N, .int .i64 K, pv, dv, .bool y]
  obtain ⟨W, hW⟩ : ∃ W, w.alloc (.cells #[.int .i64 11, .string A, .string B, .int .i64 N, .int .i64 K, pv, dv, .bool y] 31) = W := ⟨_, rfl⟩
  have hc : ∀ i, W.cell? ⟨w.heap.size, i, none⟩ = (#[.int .i64 11, .string A, .string B, .int .i64 N, .int .i64 K, pv, dv, .bool y] : Array Value)[i]? := fun i => by rw [← hW]; exact cell_of_row _ _ _ _ _ _ (heap_alloc_new w _)
  rw [hW] at hp1 hb1
  have HL := Lib.hid hL
  have HRel := Lib.hid hr
  have hg := h.low
  clear h hr hL
  unfold opW
  go_enter Tryz.func11, Tryz.ntmps11
  go_wp2_with fail
  have c1 : W.cell? ⟨w.heap.size, 1, none⟩ = some (.string A) := hc 1
  clear hc hW
  go_wp2_with (go_at_call 19; ((with_reducible refine (HL.out _ hp1).mono ?_); rintro r w3 ⟨rfl, hp3, hk3, hb3⟩))
  go_ret
  exact ⟨rfl, _, _, hp3.free, HRel.out, hb1.trans { hb3 with block := fun b hb => hb3.block b (Nat.lt_of_lt_of_le hb hp1.size) }⟩

set_option maxRecDepth 100000 in
set_option maxHeartbeats 4000000 in
theorem stepP_on (h : Pair b0 E D R P G q m w) (A B : ByteArray) (N K : Int) (pv dv : Value) (y : Bool) (k : Int) (hk : k ≠ 1 ∧ k ≠ 2 ∧ k ≠ 3 ∧ k ≠ 4 ∧ k ≠ 5 ∧ k ≠ 6 ∧ k ≠ 7 ∧ k ≠ 8 ∧ k ≠ 9 ∧ k ≠ 10 ∧ k ≠ 11)
    (hp : ∀ W P, Pair b0 E D R P G q m W → Below b0 w W → Calls Tryz.prog 42 #[.pointer (some ⟨D, 0, none⟩), .pointer (some ⟨R, 0, none⟩), opW k A B N K pv dv y] W fun r w' => r = .returned (.bool true) ∧ Went b0 E D R W m1 S1 w') :
    Calls Tryz.prog 11 #[.pointer (some ⟨D, 0, none⟩), .pointer (some ⟨R, 0, none⟩), opW k A B N K pv dv y] w fun r w' => r = .returned (.bool true) ∧ Went b0 E D R w m1 S1 w' := by
  obtain ⟨n1, n2, n3, n4, n5, n6, n7, n8, n9, n10, n11⟩ := hk
  obtain ⟨hp1, hb1⟩ := h.boxed #[.int .i64 k, .string A, .string B, .int .i64 N, .int .i64 K, pv, dv, .bool y]
  obtain ⟨W, hW⟩ : ∃ W, w.alloc (.cells #[.int .i64 k, .string A, .string B, .int .i64 N, .int .i64 K, pv, dv, .bool y] 31) = W := ⟨_, rfl⟩
  have hc : ∀ i, W.cell? ⟨w.heap.size, i, none⟩ = (#[.int .i64 k, .string A, .string B, .int .i64 N, .int .i64 K, pv, dv, .bool y] : Array Value)[i]? := fun i => by rw [← hW]; exact cell_of_row _ _ _ _ _ _ (heap_alloc_new w _)
  rw [hW] at hp1 hb1
  unfold opW at hp ⊢
  have HPW := Lib.hid hp
  have HB := Lib.hid hb1
  clear h hp
  go_enter Tryz.func11, Tryz.ntmps11
  go_wp2_with fail
  have c0 : W.cell? ⟨w.heap.size, 0, none⟩ = some (.int .i64 k) := hc 0
  have c6 : W.cell? ⟨w.heap.size, 6, none⟩ = some dv := hc 6
  have c7 : W.cell? ⟨w.heap.size, 7, none⟩ = some (.bool y) := hc 7
  have c1 : W.cell? ⟨w.heap.size, 1, none⟩ = some (.string A) := hc 1
  have c2 : W.cell? ⟨w.heap.size, 2, none⟩ = some (.string B) := hc 2
  have c3 : W.cell? ⟨w.heap.size, 3, none⟩ = some (.int .i64 N) := hc 3
  have c4 : W.cell? ⟨w.heap.size, 4, none⟩ = some (.int .i64 K) := hc 4
  have c5 : W.cell? ⟨w.heap.size, 5, none⟩ = some pv := hc 5
  clear hW hc hb1
  go_wp2_with (go_at_call 42; ((with_reducible refine (HPW.out W _ hp1 HB.out).mono ?_); rintro r w2 ⟨rfl, G', q', hp2, hr2, hb2⟩))
  go_ret
  exact ⟨rfl, G', q', hp2, hr2, HB.out.trans hb2⟩

end
end Go.Proofs.YtmmlefbokplnnaaGreatDoor.Disk

namespace Go.Proofs.YtmmlefbokplnnaaGreatDoor.Disk
open Go.RowKit Go Go.Proofs.YtmmlefbokplnnaaGreatDoor.Base Go.Proofs.YtmmlefbokplnnaaGreatDoor.Map

/-- one row of the law's script, as plain data -/
structure OpD where
  k : Int
  A : ByteArray
  B : ByteArray
  N : Int
  K : Int
  l : List ByteArray
  pa : Option Addr
  pc : Nat
  data : List Int
  da : Option Addr
  dc : Nat
  y : Bool

def OpD.val (o : OpD) : Value := opW o.k o.A o.B o.N o.K (.slice o.pa o.l.length o.pc) (.slice o.da o.data.length o.dc) o.y
def OpD.text (o : OpD) : List Nat := cat (psOf o.l) o.l.length

structure OpD.At (b0 : Nat) (w : World) (o : OpD) : Prop where
  hA : o.A.size < 4294967281
  hB : o.B.size < 4294967281
  hN : inI o.N
  hK : inI o.K
  parts : PartsAt w o.pa o.l.length (psOf o.l)
  plow : 0 < o.l.length → ∀ b off, o.pa = some ⟨b, off, none⟩ → b < b0
  pll : o.l.length ≤ 1048576
  tl : o.text.length ≤ 1048576
  ints : IntsAt w o.da o.data
  dlow : 0 < o.data.length → ∀ b off, o.da = some ⟨b, off, none⟩ → b < b0
  dll : o.data.length ≤ 1048576
  din : ∀ x ∈ o.data, inI x

theorem OpD.At.low {b0 : Nat} {w w' : World} {o : OpD} (h : o.At b0 w) (hb : Below b0 w w') : o.At b0 w' :=
  ⟨h.hA, h.hB, h.hN, h.hK, h.parts.low h.plow hb, h.plow, h.pll, h.tl, h.ints.low h.dlow hb, h.dlow, h.dll, h.din⟩

/-- what a power row does -/
def M.powerD (m : M) (o : OpD) : M :=
  if o.k = 12 then m.crash o.N else if o.k = 13 then m.restart o.N o.data o.y
  else if o.k = 14 then (m.flip o.A o.N (IntKind.u8.wrap o.K).toNat).2 else m
/-- what a row does -/
def M.stepD (m : M) (o : OpD) : M :=
  if o.k = 1 then (m.mkdir o.A).2 else if o.k = 2 then (m.create o.A).2 else if o.k = 3 then (m.append o.A o.text).2
  else if o.k = 4 then (m.cut o.A o.N).2 else if o.k = 5 then (m.sync o.A).2 else if o.k = 6 then m.syncNames.2
  else if o.k = 7 then (m.rename o.A o.B).2 else if o.k = 8 then (m.remove o.A).2
  else if o.k = 9 then m else if o.k = 10 then m else if o.k = 11 then m else m.powerD o

section
variable {b0 D R P S : Nat} {E : Nat → Addr} {G : DiskG} {q : RefG} {m m1 : M} {w W : World}

theorem went_mono {S1 S2 : Nat} (hs : S1 ≤ S2) {r : Ending} {w' : World} (h : r = .returned (.bool true) ∧ Went b0 E D R w m1 S1 w') : r = .returned (.bool true) ∧ Went b0 E D R w m1 S2 w' := by
  obtain ⟨h1, G', q', h2, h3, h4⟩ := h
  exact ⟨h1, G', q', h2, h3.mono hs, h4⟩

theorem power_any (h : Pair b0 E D R P G q m w) (hr : Rel G m S) (hS : S ≤ 1048576) (o : OpD) (ho : o.At b0 w) :
    Calls Tryz.prog 42 #[.pointer (some ⟨D, 0, none⟩), .pointer (some ⟨R, 0, none⟩), o.val] w fun r w' => r = .returned (.bool true) ∧ Went b0 E D R w (m.powerD o) S w' := by
  unfold OpD.val M.powerD
  by_cases h12 : o.k = 12
  · rw [if_pos h12, h12]; exact power12_on h hr _ _ _ _ ho.hN _ _ _
  rw [if_neg h12]
  by_cases h13 : o.k = 13
  · rw [if_pos h13, h13]; exact power13_on h hr hS _ _ _ _ ho.hN _ _ _ _ ho.ints ho.dlow ho.dll ho.din _
  rw [if_neg h13]
  by_cases h14 : o.k = 14
  · rw [if_pos h14, h14]
    obtain ⟨k, hk, hu⟩ := u8w o.K
    have e : (IntKind.u8.wrap o.K).toNat = k := by rw [hu]; rfl
    rw [e]
    exact power14_on h hr hS _ _ ho.hA _ _ ho.hN k hk hu _ _ _
  rw [if_neg h14]
  exact powerX_on h hr _ h12 h13 h14 _ _ _ _ _ _ _

theorem lawStep_any (h : Pair b0 E D R P G q m w) (hr : Rel G m S) (hS : S ≤ 1048576) (o : OpD) (ho : o.At b0 w) :
    Calls Tryz.prog 11 #[.pointer (some ⟨D, 0, none⟩), .pointer (some ⟨R, 0, none⟩), o.val] w fun r w' => r = .returned (.bool true) ∧ Went b0 E D R w (m.stepD o) (S + 2 + o.text.length) w' := by
  unfold OpD.val M.stepD
  by_cases h1 : o.k = 1
  · rw [if_pos h1, h1]; exact (step1_on h hr hS _ _ ho.hA _ _ _ _ _).mono fun r w' hh => went_mono (by omega) hh
  rw [if_neg h1]
  by_cases h2 : o.k = 2
  · rw [if_pos h2, h2]; exact (step2_on h hr hS _ _ ho.hA _ _ _ _ _).mono fun r w' hh => went_mono (by omega) hh
  rw [if_neg h2]
  by_cases h3 : o.k = 3
  · rw [if_pos h3, h3]; exact (step3_on h hr hS _ _ ho.hA _ _ _ _ _ ho.parts ho.plow ho.pll ho.tl _ _).mono fun r w' hh => went_mono (by unfold OpD.text; omega) hh
  rw [if_neg h3]
  by_cases h4 : o.k = 4
  · rw [if_pos h4, h4]; exact (step4_on h hr hS _ _ ho.hA _ _ ho.hN _ _ _).mono fun r w' hh => went_mono (by omega) hh
  rw [if_neg h4]
  by_cases h5 : o.k = 5
  · rw [if_pos h5, h5]; exact (step5_on h hr hS _ _ ho.hA _ _ _ _ _).mono fun r w' hh => went_mono (by omega) hh
  rw [if_neg h5]
  by_cases h6 : o.k = 6
  · rw [if_pos h6, h6]; exact (step6_on h hr hS _ _ _ _ _ _ _).mono fun r w' hh => went_mono (by omega) hh
  rw [if_neg h6]
  by_cases h7 : o.k = 7
  · rw [if_pos h7, h7]; exact (step7_on h hr hS _ _ ho.hA ho.hB _ _ _ _ _).mono fun r w' hh => went_mono (by omega) hh
  rw [if_neg h7]
  by_cases h8 : o.k = 8
  · rw [if_pos h8, h8]; exact (step8_on h hr hS _ _ ho.hA _ _ _ _ _).mono fun r w' hh => went_mono (by omega) hh
  rw [if_neg h8]
  by_cases h9 : o.k = 9
  · rw [if_pos h9, h9]; exact (step9_on h hr hS _ _ ho.hA _ _ ho.hN ho.hK _ _ _).mono fun r w' hh => went_mono (by omega) hh
  rw [if_neg h9]
  by_cases h10 : o.k = 10
  · rw [if_pos h10, h10]; exact (step10_on h hr hS _ _ ho.hA _ _ _ _ _).mono fun r w' hh => went_mono (by omega) hh
  rw [if_neg h10]
  by_cases h11 : o.k = 11
  · rw [if_pos h11, h11]; exact (step11_on h hr hS _ _ ho.hA _ _ _ _ _).mono fun r w' hh => went_mono (by omega) hh
  rw [if_neg h11]
  refine (stepP_on h _ _ _ _ _ _ _ _ ⟨h1, h2, h3, h4, h5, h6, h7, h8, h9, h10, h11⟩ fun W P hp hb => ?_).mono fun r w' hh => went_mono (S1 := S) (by omega) hh
  exact power_any hp hr hS o (ho.low hb)

end
end Go.Proofs.YtmmlefbokplnnaaGreatDoor.Disk

namespace Go.Proofs.YtmmlefbokplnnaaGreatDoor.Disk
open Go.RowKit Go Go.Proofs.YtmmlefbokplnnaaGreatDoor.Base Go.Proofs.YtmmlefbokplnnaaGreatDoor.Map

def newQ : RefG := ⟨.slice none 0 0, .slice none 0 0, .slice none 0 0, .slice none 0 0, []⟩

theorem newRef_at (c : Int) (w : World) : RefAt (w.alloc (.cells (refCells newQ (newM c)) 43)) w.heap.size newQ (newM c) :=
  ⟨heap_alloc_new w _, World.ownsRow_nil _ _ _ _, World.ownsRow_nil _ _ _ _, World.ownsRow_nil _ _ _ _, World.ownsRow_nil _ _ _ _, rfl, fun i h1 => (by cases h1), fun i j k h1 => (by cases h1)⟩

set_option maxRecDepth 100000 in
theorem New_ref (c : Int) (w : World) : Calls Tryz.prog 9 #[.int .i64 c] w fun e w' => e = .returned (.pointer (some ⟨w.heap.size, 0, none⟩)) ∧ RefAt w' w.heap.size newQ (newM c) ∧ Below w.heap.size w w' := by
  have hcap : ((newM c).cap : Int) = if c < 0 then 0 else if 67108864 < c then 67108864 else c := by
    show (((min (max c 0) 67108864).toNat : Nat) : Int) = _
    split <;> (try split) <;> omega
  have hd := newRef_at c w
  have e : refCells newQ (newM c) = #[.slice none 0 0, .slice none 0 0, .slice none 0 0, .slice none 0 0, .int .i64 ((newM c).cap : Int), .bool false, .int .i64 0] := rfl
  rw [e, hcap] at hd
  have HD := Lib.hid hd
  clear hd e hcap
  by_cases c1 : c < 0
  · rw [if_pos c1] at HD
    go_enter Tryz.func9, Tryz.ntmps9
    go_wp2
    go_ret
    exact ⟨rfl, HD.out, below_alloc _ _⟩
  · rw [if_neg c1] at HD
    by_cases c2 : 67108864 < c
    · rw [if_pos c2] at HD
      go_enter Tryz.func9, Tryz.ntmps9
      go_wp2
      go_ret
      exact ⟨rfl, HD.out, below_alloc _ _⟩
    · rw [if_neg c2] at HD
      go_enter Tryz.func9, Tryz.ntmps9
      go_wp2
      go_ret
      exact ⟨rfl, HD.out, below_alloc _ _⟩

theorem own_newG {c : Int} {D k : Nat} (h : (newG c).own D k) : k = D := by
  rcases h with h | h | h | h | ⟨x, hx, _⟩ | ⟨i, hi, _⟩
  · exact h
  · simp [newG, TreeG.blocks] at h
  · simp [newG, TreeG.blocks] at h
  · cases h
  · cases hx
  · cases hi
theorem own_newQ {R k : Nat} (h : newQ.own R k) : k = R := by
  rcases h with h | h | h | ⟨v, hv, _⟩
  · exact h
  · cases h
  · cases h
  · cases hv

/-- the two disks at their start -/
theorem pair_new {w : World} {E : Nat → Addr} {D R : Nat} (c : Int) (he : EnvD w E) (h8 : 8 ≤ w.heap.size) (hE : ∀ c, 1 ≤ c → c ≤ 7 → (E c).block < w.heap.size) {w2 : World} (hD : w.heap.size ≤ D) (hR : w.heap.size ≤ R)
    (hb : Below w.heap.size w w2) (hd : DiskAt w2 D (newG c)) (hr : RefAt w2 R newQ (newM c)) : Pair w.heap.size E D R 0 (newG c) newQ (newM c) w2 :=
  ⟨he.below hb, hd, hr, fun k hk => by rw [own_newG hk]; exact hD, fun k hk => by rw [own_newQ hk]; exact hR, h8, hE, hb.size, .inr (by omega)⟩

end Go.Proofs.YtmmlefbokplnnaaGreatDoor.Disk

namespace Go.Proofs.YtmmlefbokplnnaaGreatDoor.Disk
open Go.RowKit Go Go.Proofs.YtmmlefbokplnnaaGreatDoor.Base Go.Proofs.YtmmlefbokplnnaaGreatDoor.Map

/-- what a row of things holds -/
theorem thing_cells {w : World} {R : Nat} {q : RefG} {m : M} (h : RefAt w R q m) {ao : Option Addr} {n cap : Nat} (hv : q.tv = .slice ao n cap) (j : Nat) (hj : j < m.things.length) :
    ∃ g, ao = some ⟨g, 0, none⟩ ∧ g < w.heap.size ∧ ∀ c, c < 3 → w.cell? ⟨g, j * 3 + c, none⟩ = (thingC (m.things[j]'hj))[c]? := by
  obtain ⟨ao', cap', hv', hcap, hr⟩ := row_open (f := thingC) (k := 3) (fun _ => rfl) h.things rfl
  rw [hv] at hv'
  injection hv' with e1 _ _
  rw [e1]
  exact hr j hj

section
variable {b0 D R P S : Nat} {E : Nat → Addr} {G : DiskG} {q : RefG} {m m1 : M} {w W : World}

set_option maxRecDepth 100000 in
set_option maxHeartbeats 4000000 in
theorem alike_on (h : Pair b0 E D R P G q m w) (hr : Rel G m S) (hS : S ≤ 1048576) :
    Calls Tryz.prog 12 #[.pointer (some ⟨D, 0, none⟩), .pointer (some ⟨R, 0, none⟩)] w fun r w' => r = .returned (.bool true) ∧ Pair b0 E D R 0 G q m w' ∧ Below b0 w w' := by
  have hm := hr.lim hS
  have hn := hr.numsIn
  have hps : ∀ x ∈ m.things, x.path.size < 4294967281 := fun x hx => by have := path_le (hr.wfc.anyPath hx); omega
  obtain ⟨U, hU⟩ : ∃ U : Int, (m.used : Int) = U := ⟨_, rfl⟩
  have hUd : (if G.off then (0 : Int) else (G.used : Int)) = U := by
    rw [← hU, hr.off, hr.used]; unfold M.used; split <;> simp
  have hD := fun (W : World) (hp : Pair b0 E D R 0 G q m W) => used_any hp.disk
  have hO := fun (W : World) (hp : Pair b0 E D R 0 G q m W) => off_any hp.disk
  have hR := fun (W : World) (hp : Pair b0 E D R 0 G q m W) => Used_ref hp.ref hm hn
  have hL := fun (A : ByteArray) (hA : A.size < 4294967281) (W : World) (hp : Pair b0 E D R 0 G q m W) => listed_on hp hr hS A hA
  have hT := fun (A : ByteArray) (hA : A.size < 4294967281) (W : World) (hp : Pair b0 E D R 0 G q m W) => step10_same hp hr hS A ⟨#[]⟩ hA 0 0 (.slice none 0 0) (.slice none 0 0) false
  unfold opW at hT
  rw [hU] at hR
  rw [hUd] at hD
  rw [hr.off] at hO
  have hp0 := h.free
  obtain ⟨f, hf⟩ : ∃ f, m.off = f := ⟨_, rfl⟩
  have c5 : w.cell? ⟨R, 5, none⟩ = some (.bool f) := by rw [← hf]; exact h.ref.cell 5
  rw [hf] at hO
  obtain ⟨N, hN⟩ : ∃ N, m.things.length = N := ⟨_, rfl⟩
  obtain ⟨ao, cap, hv, hcap, _⟩ := row_open (f := thingC) (k := 3) (fun _ => rfl) h.ref.things rfl
  rw [hN] at hv hcap
  have hlen := hm.things
  rw [hN] at hlen
  have HN := Lib.hid hN
  have HV := Lib.hid hv
  have HC0 : Hid (∀ W, Pair b0 E D R 0 G q m W → W.cell? ⟨R, 0, none⟩ = some (.slice ao N cap)) := fun W hp => by rw [← hv]; exact hp.ref.cell 0
  have HD := Lib.hid hD
  have HO := Lib.hid hO
  have HR := Lib.hid hR
  have HL := Lib.hid hL
  have HT := Lib.hid hT
  have HPS := Lib.hid hps
  clear hN hv hcap h hr hm hn hps hU hUd hD hO hR hL hT hf
  have hlow : ∀ (w1 w2 : World), b0 ≤ w1.heap.size → Below w1.heap.size w1 w2 → Below b0 w1 w2 := fun w1 w2 h1 h2 => { h2 with block := fun b hb => h2.block b (Nat.lt_of_lt_of_le hb h1) }
  go_enter Tryz.func12, Tryz.ntmps12
  go_wp2_with fail
  obtain ⟨hp1, _, _, hb1⟩ := hp0.below (Below.refl _ _).drew
  have d5 : w.drew.cell? ⟨R, 5, none⟩ = some (.bool f) := c5
  have HF := Lib.hid (show ∀ W, (∃ n, W = w.drew.drewN n) → Pair b0 E D R 0 G q m W ∧ Below b0 w.drew W ∧ W.cell? ⟨R, 5, none⟩ = some (.bool f) from fun W hW => by
    obtain ⟨n, rfl⟩ := hW
    obtain ⟨k1, _, _, k4⟩ := hp1.below (below_drewN (Below.refl _ _) n)
    exact ⟨k1, k4, c5⟩)
  go_region_law (first
    | (go_simp; go_at_call 15; ((with_reducible refine (HD.out _ hp1).mono ?_); rintro r w1 ⟨rfl, rfl⟩))
    | (go_simp; go_at_call 43; ((with_reducible refine (HR.out _ hp1).mono ?_); rintro r w2 ⟨rfl, hw2⟩; obtain ⟨hp2, hb2, e5⟩ := HF.out w2 hw2; clear hw2))
    | (go_simp; go_at_call 16; ((with_reducible refine (HO.out _ hp2).mono ?_); rintro r w3 ⟨rfl, rfl⟩))
    | (go_simp; go_at_call 19; ((with_reducible refine (HL.out _ (by decide) _ hp2).mono ?_); rintro r w4 ⟨rfl, hp4, _, hb4⟩)))
  all_goals
    have HB4 := Lib.hid ((hb1.trans hb2).trans (hlow _ _ hp2.size hb4))
    have c0 := HC0.out _ hp4
    have HP4 := Lib.hid hp4
    clear HF hp0 hp1 hp2 hp4 hb1 hb2 hb4 e5 d5 c5 HD HO HR
    go_wp2_with fail
    go_loopg [32] N (fun r i wr => ∃ (j : Nat), Hid (j + r = N) ∧ j ≤ N ∧ i = .int .i64 (j : Int) ∧ Hid (Pair b0 E D R 0 G q m wr) ∧ Hid (Below b0 w wr))
    case atStart => exact ⟨0, Nat.zero_add _, Nat.zero_le _, rfl, HP4.out, HB4.out⟩
    case round =>
      clear c0 HP4 HB4
      obtain ⟨j, hE, hj, rfl, HP, HB⟩ := hrel
      by_cases hlt : j < N
      · have hjl : j < m.things.length := by rw [HN.out]; exact hlt
        obtain ⟨g, hg, hgl, hc⟩ := thing_cells HP.out.ref HV.out j hjl
        have hps := HPS.out _ (List.getElem_mem hjl)
        obtain ⟨x, hx⟩ : ∃ x, m.things[j]'hjl = x := ⟨_, rfl⟩
        rw [hx] at hc hps
        obtain ⟨A, dd, nm⟩ := x
        have d0 : wr.cell? ⟨g, j * 3, none⟩ = some (.string A) := hc 0 (by omega)
        have d1 : wr.cell? ⟨g, j * 3 + 1, none⟩ = some (.bool dd) := hc 1 (by omega)
        have d2 : wr.cell? ⟨g, j * 3 + 2, none⟩ = some (.int .i64 (nm : Int)) := hc 2 (by omega)
        obtain ⟨W2, hW2⟩ : ∃ W2, W2 = wr.alloc (.cells #[.string A, .bool dd, .int .i64 (nm : Int)] 83) := ⟨_, rfl⟩
        have hcc : ∀ i, W2.cell? ⟨wr.heap.size, i, none⟩ = (#[.string A, .bool dd, .int .i64 (nm : Int)] : Array Value)[i]? := fun i => by rw [hW2]; exact cell_of_row _ _ _ _ _ _ (heap_alloc_new wr _)
        have f0 : W2.cell? ⟨wr.heap.size, 0, none⟩ = some (.string A) := hcc 0
        have f1 : W2.cell? ⟨wr.heap.size, 1, none⟩ = some (.bool dd) := hcc 1
        have hsz : wr.heap.size < W2.heap.size := by rw [hW2]; simp
        obtain ⟨hp2, _, _, hb2⟩ := HP.out.below (w' := W2) (by rw [hW2]; exact below_alloc _ _)
        have hpsz : A.size < 4294967281 := hps
        have HLA := Lib.hid (HL.out A hpsz)
        have HTA := Lib.hid (HT.out A hpsz)
        have hjI : (j : Int) < (N : Int) := by omega
        have HP2 := Lib.hid hp2
        have HB2 := Lib.hid hb2
        clear hc hcc hx hps hp2 hb2
        subst hg
        cases dd
        · go_upto_region 6 with fail
          rw [← hW2]
          clear hW2
          go_wp2_with (go_at_call 11; ((with_reducible refine (HTA.out _ HP2.out).mono ?_); rintro r w4 ⟨rfl, hp4, hb4⟩))
          go_roundg (N - (j + 1))
          case measure => have := hE.out; omega
          case rel => exact ⟨j + 1, by show _ = _; have := hE.out; omega, by omega, by go_num, hp4, (HB.out.trans HB2.out).trans hb4⟩
        · go_upto_region 6 with fail
          rw [← hW2]
          clear hW2
          go_wp2_with (go_at_call 19; ((with_reducible refine (HLA.out _ HP2.out).mono ?_); rintro r w4 ⟨rfl, hp4, _, hb4⟩; have g1 := (hb4.cell (p := ⟨wr.heap.size, 1, none⟩) hsz).trans f1))
          go_roundg (N - (j + 1))
          case measure => have := hE.out; omega
          case rel => exact ⟨j + 1, by show _ = _; have := hE.out; omega, by omega, by go_num, hp4, (HB.out.trans HB2.out).trans (hlow _ _ HP2.out.size hb4)⟩
      · obtain rfl : j = N := by omega
        go_wp2
        go_ret
        exact ⟨rfl, HP.out, HB.out⟩

end
end Go.Proofs.YtmmlefbokplnnaaGreatDoor.Disk

namespace Go.Proofs.YtmmlefbokplnnaaGreatDoor.Disk
open Go.RowKit Go Go.Proofs.YtmmlefbokplnnaaGreatDoor.Base Go.Proofs.YtmmlefbokplnnaaGreatDoor.Map

def OpD.cells (o : OpD) : Array Value := #[.int .i64 o.k, .string o.A, .string o.B, .int .i64 o.N, .int .i64 o.K, .slice o.pa o.l.length o.pc, .slice o.da o.data.length o.dc, .bool o.y]
/-- a script in memory -/
def OpsD (w : World) (ao : Option Addr) (ops : List OpD) : Prop := ∀ j (hj : j < ops.length), ∃ b off, ao = some ⟨b, off, none⟩ ∧ b < w.heap.size ∧ (∀ i, i < 8 → w.cell? ⟨b, off + (j * 8 + i), none⟩ = (ops[j]'hj).cells[i]?) ∧ (ops[j]'hj).At w.heap.size w
/-- what a script weighs -/
def costs : List OpD → Nat
  | [] => 0
  | o :: r => (2 + o.text.length) + costs r
theorem costs_take (ops : List OpD) (j : Nat) (hj : j < ops.length) : costs (ops.take (j + 1)) = costs (ops.take j) + 2 + (ops[j]'hj).text.length := by
  induction ops generalizing j with
  | nil => exact absurd hj (by simp)
  | cons o r ih =>
    cases j with
    | zero => simp [costs]
    | succ j =>
      have := ih j (by simpa using hj)
      simp only [List.take_succ_cons, costs, List.getElem_cons_succ] at this ⊢
      omega
theorem costs_part (ops : List OpD) (j : Nat) : costs (ops.take j) ≤ costs ops := by
  induction ops generalizing j with
  | nil => simp
  | cons o r ih =>
    cases j with
    | zero => simp [costs]
    | succ j =>
      have := ih j
      simp only [List.take_succ_cons, costs] at this ⊢
      omega
theorem costs_length (ops : List OpD) : ops.length * 2 ≤ costs ops := by
  induction ops with
  | nil => simp
  | cons o r ih => simp only [List.length_cons, costs]; omega

/-- a row's cells, later -/
theorem op_cells {w wr : World} {ao : Option Addr} {ops : List OpD} (hO : OpsD w ao ops) (hb : Below w.heap.size w wr) (j : Nat) (hj : j < ops.length) :
    ∃ b off, ao = some ⟨b, off, none⟩ ∧ wr.cell? ⟨b, off + j * 8, none⟩ = some (.int .i64 (ops[j]'hj).k) ∧ wr.cell? ⟨b, off + j * 8 + 1, none⟩ = some (.string (ops[j]'hj).A) ∧ wr.cell? ⟨b, off + j * 8 + 2, none⟩ = some (.string (ops[j]'hj).B) ∧ wr.cell? ⟨b, off + j * 8 + 3, none⟩ = some (.int .i64 (ops[j]'hj).N) ∧ wr.cell? ⟨b, off + j * 8 + 4, none⟩ = some (.int .i64 (ops[j]'hj).K)
      ∧ wr.cell? ⟨b, off + j * 8 + 5, none⟩ = some (.slice (ops[j]'hj).pa (ops[j]'hj).l.length (ops[j]'hj).pc) ∧ wr.cell? ⟨b, off + j * 8 + 6, none⟩ = some (.slice (ops[j]'hj).da (ops[j]'hj).data.length (ops[j]'hj).dc) ∧ wr.cell? ⟨b, off + j * 8 + 7, none⟩ = some (.bool (ops[j]'hj).y)
      ∧ (ops[j]'hj).At w.heap.size wr := by
  obtain ⟨b, off, h1, h2, h3, h4⟩ := hO j hj
  have hc : ∀ i, i < 8 → wr.cell? ⟨b, off + (j * 8 + i), none⟩ = (ops[j]'hj).cells[i]? := fun i hi => by rw [hb.cell h2]; exact h3 i hi
  exact ⟨b, off, h1, hc 0 (by omega), by rw [Nat.add_assoc]; exact hc 1 (by omega), by rw [Nat.add_assoc]; exact hc 2 (by omega), by rw [Nat.add_assoc]; exact hc 3 (by omega), by rw [Nat.add_assoc]; exact hc 4 (by omega), by rw [Nat.add_assoc]; exact hc 5 (by omega), by rw [Nat.add_assoc]; exact hc 6 (by omega), by rw [Nat.add_assoc]; exact hc 7 (by omega), h4.low hb⟩

set_option maxRecDepth 100000 in
set_option maxHeartbeats 4000000 in
theorem plays_walk (w : World) (E : Nat → Addr) (he : EnvD w E) (h8 : 8 ≤ w.heap.size) (hE : ∀ c, 1 ≤ c → c ≤ 7 → (E c).block < w.heap.size) (c : Int) (ao : Option Addr) (cap : Nat) (ops : List OpD) (hO : OpsD w ao ops) (hcost : costs ops ≤ 1048576) :
    Calls Tryz.prog 3 #[.int .i64 c, .slice ao ops.length cap] w fun r w' => r = .returned (.bool true) ∧ Below w.heap.size w w' := by
  have hlen := costs_length ops
  obtain ⟨N, hN⟩ : ∃ N, ops.length = N := ⟨_, rfl⟩
  rw [hN] at hlen ⊢
  have hNl : N ≤ 1048576 := by omega
  have HN := Lib.hid hN
  have HE := Lib.hid he
  have H8 := Lib.hid h8
  have HEB := Lib.hid hE
  have HO := Lib.hid hO
  have HC := Lib.hid hcost
  have HD := Lib.hid (new_any c w)
  have HR := Lib.hid (fun W => New_ref c W)
  clear hN he h8 hE hO hcost hlen
  go_enter Tryz.func3, Tryz.ntmps3
  go_wp2_with (first
    | (go_at_call 8; ((with_reducible refine HD.out.mono ?_); rintro r w1 ⟨rfl, hd1, hb1⟩; have hs1 : w.heap.size < w1.heap.size := hd1.lt; have HD1 := Lib.hid hd1; have HB1 := Lib.hid hb1; clear hd1 hb1))
    | (go_at_call 9; ((with_reducible refine (HR.out w1).mono ?_); rintro r w2 ⟨rfl, hr2, hb2⟩; have HP2 := Lib.hid (pair_new (D := w.heap.size) (R := w1.heap.size) c HE.out H8.out HEB.out (Nat.le_refl _) (Nat.le_of_lt hs1) (HB1.out.trans (hb2.mono HB1.out.size)) (HD1.out.below hb2) hr2); have HB2 := Lib.hid (HB1.out.trans (hb2.mono HB1.out.size)); clear hr2 hb2))
    | (go_at_call 10; ((with_reducible refine (wakes_any w2 E HP2.out.env.env HP2.out.w8).mono ?_); rintro r w3 ⟨rfl, hb3⟩; obtain ⟨hp3, _, _, hb30⟩ := HP2.out.below hb3; have HP3 := Lib.hid hp3; have HB3 := Lib.hid (HB2.out.trans hb30); clear hb3 hp3 hb30)))
  have HREL := Lib.hid (rel_new c)
  clear HD HR HD1 HB1 HP2 HB2
  go_loopg [21] N (fun r i wr => ∃ (j : Nat) (G : DiskG) (q : RefG) (m : M) (S : Nat), Hid (j + r = N) ∧ j ≤ N ∧ i = .int .i64 (j : Int) ∧ Hid (Pair w.heap.size E w.heap.size w1.heap.size 0 G q m wr) ∧ Hid (Rel G m S) ∧ Hid (S ≤ costs (ops.take j)) ∧ Hid (Below w.heap.size w wr))
  case atStart => exact ⟨0, _, _, _, 0, Nat.zero_add _, Nat.zero_le _, rfl, HP3.out, HREL.out, Nat.zero_le _, HB3.out⟩
  case round =>
    clear HP3 HB3 HREL
    obtain ⟨j, G, q, m, S, hE, hj, rfl, HP, HRL, HS, HB⟩ := hrel
    by_cases hlt : j < N
    · have hjl : j < ops.length := by rw [HN.out]; exact hlt
      obtain ⟨b, off, rfl, d0, d1, d2, d3, d4, d5, d6, d7, hat⟩ := op_cells HO.out HB.out j hjl
      have e1 := costs_take ops j hjl
      have e2 := costs_part ops (j + 1)
      have e3 := HC.out
      have e4 := HS.out
      obtain ⟨o, ho⟩ : ∃ o, ops[j]'hjl = o := ⟨_, rfl⟩
      rw [ho] at d0 d1 d2 d3 d4 d5 d6 d7 hat e1
      obtain ⟨W2, hW2⟩ : ∃ W2, W2 = wr.alloc (.cells o.cells 31) := ⟨_, rfl⟩
      have hcc : ∀ i, W2.cell? ⟨wr.heap.size, i, none⟩ = o.cells[i]? := fun i => by rw [hW2]; exact cell_of_row _ _ _ _ _ _ (heap_alloc_new wr _)
      obtain ⟨hp2, _, _, hb2⟩ := HP.out.below (w' := W2) (by rw [hW2]; exact below_alloc _ _)
      have hst := lawStep_any hp2 HRL.out (by omega) o (hat.low hb2)
      have HS2 : Hid (S + 2 + o.text.length ≤ costs (ops.take (j + 1))) := by show _ ≤ _; omega
      have hS2 : S + 2 + o.text.length ≤ 1048576 := by omega
      obtain ⟨S2, hSS⟩ : ∃ S2, S + 2 + o.text.length = S2 := ⟨_, rfl⟩
      rw [hSS] at hst HS2 hS2
      have HB2 := Lib.hid (HB.out.trans hb2)
      obtain ⟨m2, hm2⟩ : ∃ m2, m.stepD o = m2 := ⟨_, rfl⟩
      rw [hm2] at hst
      clear e1 e2 e3 e4 hp2 hb2 hat ho hSS hm2
      obtain ⟨k, A, B, K1, K2, l, pa, pc, data, da, dc, y⟩ := o
      simp only [OpD.val, opW, OpD.cells] at hst hcc hW2 d0 d1 d2 d3 d4 d5 d6 d7
      obtain ⟨LN, hLN⟩ : ∃ LN, l.length = LN := ⟨_, rfl⟩
      obtain ⟨DN, hDN⟩ : ∃ DN, data.length = DN := ⟨_, rfl⟩
      rw [hLN, hDN] at hst hcc hW2
      rw [hLN] at d5
      rw [hDN] at d6
      have HST := Lib.hid hst
      have f0 : W2.cell? ⟨wr.heap.size, 0, none⟩ = some (.int .i64 k) := hcc 0
      have f1 : W2.cell? ⟨wr.heap.size, 1, none⟩ = some (.string A) := hcc 1
      have f2 : W2.cell? ⟨wr.heap.size, 2, none⟩ = some (.string B) := hcc 2
      have f3 : W2.cell? ⟨wr.heap.size, 3, none⟩ = some (.int .i64 K1) := hcc 3
      have f4 : W2.cell? ⟨wr.heap.size, 4, none⟩ = some (.int .i64 K2) := hcc 4
      have f5 : W2.cell? ⟨wr.heap.size, 5, none⟩ = some (.slice pa LN pc) := hcc 5
      have f6 : W2.cell? ⟨wr.heap.size, 6, none⟩ = some (.slice da DN dc) := hcc 6
      have f7 : W2.cell? ⟨wr.heap.size, 7, none⟩ = some (.bool y) := hcc 7
      have hjI : (j : Int) < (N : Int) := by omega
      clear hst hcc hLN hDN
      go_upto_region 7 with fail
      rw [← hW2]
      clear hW2
      go_wp2_with (first
        | (go_at_call 11; ((with_reducible refine HST.out.mono ?_); rintro r w4 ⟨rfl, G4, q4, hp4, hr4, hb4⟩))
        | (go_at_call 12; ((with_reducible refine (alike_on hp4 hr4 hS2).mono ?_); rintro r w5 ⟨rfl, hp5, hb5⟩)))
      go_roundg (N - (j + 1))
      case measure => have := hE.out; omega
      case rel => exact ⟨j + 1, G4, q4, m2, S2, by show _ = _; have := hE.out; omega, by omega, by go_num, hp5, hr4, HS2.out, (HB2.out.trans hb4).trans hb5⟩
    · obtain rfl : j = N := by omega
      go_wp2
      go_ret
      exact ⟨rfl, HB.out⟩

end Go.Proofs.YtmmlefbokplnnaaGreatDoor.Disk

/-
  The texts NStep3, NList, KRestart, joined. Own text.
-/
import Derived.Test.YtmmlefbokplnnaaGreatDoorJ37
import Derived.Test.YtmmlefbokplnnaaGreatDoorJ35
import Derived.Test.YtmmlefbokplnnaaGreatDoorJ32
import Derived.Test.YtmmlefbokplnnaaGreatDoorJ21
set_option linter.unusedVariables false
set_option linter.unusedSimpArgs false
namespace Go.Proofs.YtmmlefbokplnnaaGreatDoor.Disk
open Go.RowKit Go Go.Proofs.YtmmlefbokplnnaaGreatDoor.Base Go.Proofs.YtmmlefbokplnnaaGreatDoor.Map

section
variable {b0 D R P S : Nat} {E : Nat → Addr} {G : DiskG} {q : RefG} {m m1 : M} {w W w1 w2 : World}

theorem all_le (m : M) (p : ByteArray) : (m.all p).2 ≤ 7 := by
  unfold M.all
  have := file_le m p
  split
  · exact this
  · simp
theorem read_le (m : M) (p : ByteArray) (a n : Int) : (m.read p a n).2 ≤ 7 := by
  unfold M.read
  have := file_le m p
  split
  · exact this
  · split <;> simp

theorem d_read (h : Pair b0 E D R P G q m W) (hr : Rel G m S) (hS : S ≤ 1048576) (A : ByteArray) (hA : A.size < 4294967281) (a n : Int) (ha : inI a) (hn : inI n) :
    Calls Tryz.prog 39 #[.pointer (some ⟨D, 0, none⟩), .string A, .int .i64 a, .int .i64 n] W fun r w' => ∃ v, r = .returned (.tuple #[.string (strN (m.read A a n).1), v]) ∧ ErrAt w' E v (m.read A a n).2 ⟨#[114, 101, 97, 100]⟩ A ∧ Below W.heap.size W w' := by
  have hc := Read_any h.disk h.env.env hr.nums A hA a n (by unfold inI at ha; omega) (by unfold inI at hn; omega) (hr.bytes hS)
  obtain ⟨e1, e2⟩ := hr.readCode A a n
  rw [e1, e2] at hc
  exact hc
theorem d_all (h : Pair b0 E D R P G q m W) (hr : Rel G m S) (A : ByteArray) (hA : A.size < 4294967281) :
    Calls Tryz.prog 24 #[.pointer (some ⟨D, 0, none⟩), .string A] W fun r w' => ∃ v, r = .returned (.tuple #[.string (strN (m.all A).1), v]) ∧ ErrAt w' E v (m.all A).2 ⟨#[114, 101, 97, 100]⟩ A ∧ Below W.heap.size W w' := by
  have hc := All_any h.disk h.env.env hr.nums A hA
  obtain ⟨e1, e2⟩ := hr.allCode A
  rw [e1, e2] at hc
  exact hc
theorem Rel.allLen (hr : Rel G m S) (p : ByteArray) : (m.all p).1.length ≤ S := by
  unfold M.all
  split
  · simp
  · rename_i hz
    exact hr.nowlen (hr.fileLt (by simpa using hz))

set_option maxRecDepth 100000 in
set_option maxHeartbeats 4000000 in
theorem step9_on (h : Pair b0 E D R P G q m w) (hr : Rel G m S) (hS : S ≤ 1048576) (A B : ByteArray) (hA : A.size < 4294967281) (N K : Int) (hN : inI N) (hK : inI K) (pv dv : Value) (y : Bool) :
    Calls Tryz.prog 11 #[.pointer (some ⟨D, 0, none⟩), .pointer (some ⟨R, 0, none⟩), opW 9 A B N K pv dv y] w fun r w' => r = .returned (.bool true) ∧ Went b0 E D R w m S w' := by
  have hm := hr.lim hS
  have hn := hr.numsIn
  have hle := read_le m A N K
  have hal := hr.allLen A
  have hD := fun (W : World) (hp : Pair b0 E D R w.heap.size G q m W) => d_read hp hr hS A hA N K hN hK
  have hR := fun (W : World) (hp : Pair b0 E D R w.heap.size G q m W) => Read_ref hp.ref hm hn A (by omega) N K hN hK (by omega)
  obtain ⟨hp1, hb1⟩ := h.boxed #[.int .i64 9, .string A, .string B, .int .i64 N, .int .i64 K, pv, dv, .bool y]
  obtain ⟨W, hW⟩ : ∃ W, w.alloc (.cells #[.int .i64 9, .string A, .string B, .int .i64 N, .int .i64 K, pv, dv, .bool y] 31) = W := ⟨_, rfl⟩
  have hc : ∀ i, W.cell? ⟨w.heap.size, i, none⟩ = (#[.int .i64 9, .string A, .string B, .int .i64 N, .int .i64 K, pv, dv, .bool y] : Array Value)[i]? := fun i => by rw [← hW]; exact cell_of_row _ _ _ _ _ _ (heap_alloc_new w _)
  rw [hW] at hp1 hb1
  obtain ⟨c, hcc⟩ : ∃ c, (m.read A N K).2 = c := ⟨_, rfl⟩
  obtain ⟨tx, htx⟩ : ∃ tx, strN (m.read A N K).1 = tx := ⟨_, rfl⟩
  rw [hcc] at hle hD hR
  rw [htx] at hD hR
  have HD := Lib.hid hD
  have HR := Lib.hid hR
  have HRel := Lib.hid hr
  clear h hr hm hn hD hR hcc htx hal
  have hteq : (tx.toList == tx.toList) = true := by simp
  unfold opW
  go_enter Tryz.func11, Tryz.ntmps11
  go_wp2_with fail
  have c1 : W.cell? ⟨w.heap.size, 1, none⟩ = some (.string A) := hc 1
  have c2 : W.cell? ⟨w.heap.size, 2, none⟩ = some (.string B) := hc 2
  have c3 : W.cell? ⟨w.heap.size, 3, none⟩ = some (.int .i64 N) := hc 3
  have c4 : W.cell? ⟨w.heap.size, 4, none⟩ = some (.int .i64 K) := hc 4
  have c5 : W.cell? ⟨w.heap.size, 5, none⟩ = some pv := hc 5
  clear hc hW
  go_wp2_with (first
    | (go_at_call 39; ((with_reducible refine (HD.out _ hp1).mono ?_); rintro r w3 ⟨v, rfl, he, hb3⟩; obtain ⟨hp3, hk3, _, hbb3⟩ := hp1.below hb3; obtain ⟨d1, d2, d3, d4, d5⟩ := kept5 c1 c2 c3 c4 c5 hk3))
    | (go_at_call 40; ((with_reducible refine (HR.out _ hp3).mono ?_); rintro r w4 ⟨s, rfl, rfl, rfl⟩))
    | (go_at_call 25; ((with_reducible refine (code_any hp3.env _ c hle _ _ he).mono ?_); rintro r w5 ⟨rfl, hb5⟩; obtain ⟨hp5, hk5, _, hbb5⟩ := hp3.below hb5)))
  go_ret
  exact ⟨rfl, _, _, hp5.free, HRel.out, (hb1.trans hbb3).trans hbb5⟩

set_option maxRecDepth 100000 in
set_option maxHeartbeats 4000000 in
theorem step10_same (h : Pair b0 E D R P G q m w) (hr : Rel G m S) (hS : S ≤ 1048576) (A B : ByteArray) (hA : A.size < 4294967281) (N K : Int) (pv dv : Value) (y : Bool) :
    Calls Tryz.prog 11 #[.pointer (some ⟨D, 0, none⟩), .pointer (some ⟨R, 0, none⟩), opW 10 A B N K pv dv y] w fun r w' => r = .returned (.bool true) ∧ Pair b0 E D R 0 G q m w' ∧ Below b0 w w' := by
  have hm := hr.lim hS
  have hn := hr.numsIn
  have hle := all_le m A
  have hD := fun (W : World) (hp : Pair b0 E D R w.heap.size G q m W) => d_all hp hr A hA
  have hR := fun (W : World) (hp : Pair b0 E D R w.heap.size G q m W) => All_ref hp.ref hm hn A (by omega)
  obtain ⟨hp1, hb1⟩ := h.boxed #[.int .i64 10, .string A, .string B, .int .i64 N, .int .i64 K, pv, dv, .bool y]
  obtain ⟨W, hW⟩ : ∃ W, w.alloc (.cells #[.int .i64 10, .string A, .string B, .int .i64 N, .int .i64 K, pv, dv, .bool y] 31) = W := ⟨_, rfl⟩
  have hc : ∀ i, W.cell? ⟨w.heap.size, i, none⟩ = (#[.int .i64 10, .string A, .string B, .int .i64 N, .int .i64 K, pv, dv, .bool y] : Array Value)[i]? := fun i => by rw [← hW]; exact cell_of_row _ _ _ _ _ _ (heap_alloc_new w _)
  rw [hW] at hp1 hb1
  obtain ⟨c, hcc⟩ : ∃ c, (m.all A).2 = c := ⟨_, rfl⟩
  obtain ⟨tx, htx⟩ : ∃ tx, strN (m.all A).1 = tx := ⟨_, rfl⟩
  rw [hcc] at hle hD hR
  rw [htx] at hD hR
  have HD := Lib.hid hD
  have HR := Lib.hid hR
  have HRel := Lib.hid hr
  clear h hr hm hn hD hR hcc htx
  have hteq : (tx.toList == tx.toList) = true := by simp
  unfold opW
  go_enter Tryz.func11, Tryz.ntmps11
  go_wp2_with fail
  have c1 : W.cell? ⟨w.heap.size, 1, none⟩ = some (.string A) := hc 1
  have c2 : W.cell? ⟨w.heap.size, 2, none⟩ = some (.string B) := hc 2
  have c3 : W.cell? ⟨w.heap.size, 3, none⟩ = some (.int .i64 N) := hc 3
  have c4 : W.cell? ⟨w.heap.size, 4, none⟩ = some (.int .i64 K) := hc 4
  have c5 : W.cell? ⟨w.heap.size, 5, none⟩ = some pv := hc 5
  clear hc hW
  go_wp2_with (first
    | (go_at_call 24; ((with_reducible refine (HD.out _ hp1).mono ?_); rintro r w3 ⟨v, rfl, he, hb3⟩; obtain ⟨hp3, hk3, _, hbb3⟩ := hp1.below hb3; obtain ⟨d1, d2, d3, d4, d5⟩ := kept5 c1 c2 c3 c4 c5 hk3))
    | (go_at_call 41; ((with_reducible refine (HR.out _ hp3).mono ?_); rintro r w4 ⟨rfl, rfl⟩))
    | (go_at_call 25; ((with_reducible refine (code_any hp3.env _ c hle _ _ he).mono ?_); rintro r w5 ⟨rfl, hb5⟩; obtain ⟨hp5, hk5, _, hbb5⟩ := hp3.below hb5)))
  go_ret
  exact ⟨rfl, hp5.free, (hb1.trans hbb3).trans hbb5⟩

theorem step10_on (h : Pair b0 E D R P G q m w) (hr : Rel G m S) (hS : S ≤ 1048576) (A B : ByteArray) (hA : A.size < 4294967281) (N K : Int) (pv dv : Value) (y : Bool) :
    Calls Tryz.prog 11 #[.pointer (some ⟨D, 0, none⟩), .pointer (some ⟨R, 0, none⟩), opW 10 A B N K pv dv y] w fun r w' => r = .returned (.bool true) ∧ Went b0 E D R w m S w' :=
  (step10_same h hr hS A B hA N K pv dv y).mono fun r w' ⟨h1, h2, h3⟩ => ⟨h1, G, q, h2, hr, h3⟩

end
end Go.Proofs.YtmmlefbokplnnaaGreatDoor.Disk

namespace Go.Proofs.YtmmlefbokplnnaaGreatDoor.Disk
open Go.RowKit Go Go.Proofs.YtmmlefbokplnnaaGreatDoor.Base Go.Proofs.YtmmlefbokplnnaaGreatDoor.Map

theorem listCode_le (m : M) (d : ByteArray) : m.listCode d ≤ 7 := by
  unfold M.listCode
  repeat (first | (split <;> try simp) )

/-- what is listed -/
def seen (m : M) (d : ByteArray) : List Ent := if m.listCode d = 0 then insL (ents m d) else []

section
variable {b0 D R P S : Nat} {E : Nat → Addr} {G : DiskG} {q : RefG} {m m1 : M} {w W w1 w2 : World}

theorem d_list (h : Pair b0 E D R P G q m W) (hr : Rel G m S) (hS : S ≤ 1048576) (A : ByteArray) (hA : A.size < 4294967281) :
    Calls Tryz.prog 17 #[.pointer (some ⟨D, 0, none⟩), .string A] W fun r w' => ∃ v ev, r = .returned (.tuple #[v, ev]) ∧ ErrAt w' E ev (m.listCode A) ⟨#[108, 105, 115, 116]⟩ A ∧ Below W.heap.size W w' ∧ w'.ownsRow 0 52 3 v (seen m A).length (((seen m A).map toG).flatMap EntG.cells) ∧ (∀ k, v.ownBlock = some k → W.heap.size ≤ k) := by
  have hc := List_full h.disk h.env.env hr.nums A hA (fun x hx => by
    have h1 := files_length hr.cur hr.wfc hx
    have := hr.nt
    omega) (by
    have h1 := ds_length hr.cur hr.wfc
    have := hr.nt
    omega)
  refine hc.mono fun r w' hh => ?_
  obtain ⟨v, ev, es, h1, h2, h3, h4, h5, h6⟩ := hh
  rw [hr.listCode A] at h2 h6
  have he : es = (seen m A).map toG := by
    unfold seen
    rcases h6 with ⟨h7, h8⟩ | ⟨h7, h8, h9⟩
    · rw [if_neg h7, h8]; rfl
    · rw [if_pos h7]; exact hr.list_eq A h7 h8 h9
  rw [he] at h4
  rw [List.length_map] at h4
  exact ⟨v, ev, h1, h2, h3, h4, h5⟩

theorem entG_cells (l : List Ent) : (l.map toG).flatMap EntG.cells = l.flatMap fun e => [.string e.name, .bool e.dir, .int .i64 (e.size : Int)] := by
  induction l with
  | nil => rfl
  | cons x r ih => rw [List.map_cons, List.flatMap_cons, List.flatMap_cons, ih]; rfl

set_option maxRecDepth 100000 in
set_option maxHeartbeats 4000000 in
theorem listed_on (h : Pair b0 E D R P G q m w) (hr : Rel G m S) (hS : S ≤ 1048576) (A : ByteArray) (hA : A.size < 4294967281) :
    Calls Tryz.prog 19 #[.pointer (some ⟨D, 0, none⟩), .pointer (some ⟨R, 0, none⟩), .string A] w fun r w' => r = .returned (.bool true) ∧ Pair b0 E D R P G q m w' ∧ Keeps P w w' ∧ Below w.heap.size w w' := by
  have hm := hr.lim hS
  have hn := hr.numsIn
  have hle := listCode_le m A
  have hD := d_list h hr hS A hA
  have hR := fun (W : World) (hp : Pair b0 E D R P G q m W) => List_ref hp.ref hm hn A (by omega)
  obtain ⟨L, hL⟩ : ∃ L, seen m A = L := ⟨_, rfl⟩
  have hLl : L.length ≤ S := by
    rw [← hL]; unfold seen
    split
    · rw [insL_length, ents_eq]
      exact Nat.le_trans (List.length_filterMap_le _ _) hr.nt
    · simp
  rw [hL] at hD
  have hL2 : (if m.listCode A = 0 then insL (ents m A) else []) = L := hL
  rw [hL2] at hR
  obtain ⟨c, hcc⟩ : ∃ c, m.listCode A = c := ⟨_, rfl⟩
  obtain ⟨N, hN⟩ : ∃ N, L.length = N := ⟨_, rfl⟩
  rw [hcc] at hle hD hR
  rw [hN] at hD hLl
  rw [entG_cells] at hD
  have HD := Lib.hid hD
  have HR := Lib.hid hR
  have HN := Lib.hid hN
  have HH := Lib.hid h
  clear h hr hm hn hD hR hcc hN hL hL2
  go_enter Tryz.func19, Tryz.ntmps19
  go_wp2_with (first
    | (go_at_call 17; ((with_reducible refine HD.out.mono ?_); rintro r w3 ⟨v, ev, rfl, he, hb3, hrow3, hfr3⟩; obtain ⟨hp3, hk3, _, hbb3⟩ := HH.out.below hb3; obtain ⟨va, vc, rfl, _⟩ := row_len hrow3))
    | (go_at_call 18; ((with_reducible refine (HR.out _ hp3).mono ?_); rintro r w4 ⟨v2, rfl, ho⟩; obtain ⟨hp4, hk4, hek4, hbb4⟩ := hp3.below ho.below; have he4 := hek4 _ _ _ _ he; have hrow4 := row_turn (S := fun _ => False) hrow3 (Turn.of_below ho.below) (fun _ _ => id); obtain ⟨wa, wc, rfl⟩ := ho.shape; have hrowW := ho.row; rw [HN.out] at hrowW ⊢))
    | (go_at_call 25; ((with_reducible refine (code_any hp4.env _ c hle _ _ he4).mono ?_); rintro r w5 ⟨rfl, hb5⟩; obtain ⟨hp5, hk5, _, hbb5⟩ := hp4.below hb5; have hrow5 := row_turn (S := fun _ => False) hrow4 (Turn.of_below hb5) (fun _ _ => id); have hrowW5 := row_turn (S := fun _ => False) hrowW (Turn.of_below hb5) (fun _ _ => id))))
  obtain ⟨la, lc, hlv, _, hlr⟩ := row_open (f := entC) (k := 3) (n := N) (fun _ => rfl) hrow5 HN.out
  obtain ⟨xa, xc, hxv, _, hxr⟩ := row_open (f := entC) (k := 3) (n := N) (fun _ => rfl) hrowW5 HN.out
  injection hlv with e1 e2 e3
  injection hxv with f1 f2 f3
  subst e1 f1
  clear e2 e3 f2 f3
  have HLR := Lib.hid hlr
  have HXR := Lib.hid hxr
  have HP5 := Lib.hid hp5
  have HKK : Hid (Keeps P w w5) := Lib.hid (fun i v hv => hk5 i v (hk4 i v (hk3 i v hv)))
  have HBB : Hid (Below w.heap.size w w5) := Lib.hid ((hb3.trans (ho.below.mono hb3.size)).trans (hb5.mono (by have := hb3.size; have := ho.below.size; omega)))
  have hNl : N < 4611686018427387904 := by omega
  clear hlr hxr hrow5 hrowW5 hrow4 hrow3 hrowW ho he he4 hfr3 hb3 hb5 hp3 hp4 hp5 hk3 hk4 hk5 hbb3 hbb4 hbb5 hek4
  go_loopg [38] N (fun r i wr => ∃ (j : Nat), Hid (j + r = N) ∧ j ≤ N ∧ i = .int .i64 (j : Int) ∧ ∃ n, wr = w5.drewN n)
  case atStart => exact ⟨0, Nat.zero_add _, Nat.zero_le _, rfl, 0, rfl⟩
  case round =>
    obtain ⟨j, hE, hj, rfl, nd, rfl⟩ := hrel
    by_cases hlt : j < N
    · have hjl : j < L.length := by rw [HN.out]; exact hlt
      obtain ⟨g, rfl, hg, hc⟩ := HLR.out j hjl
      obtain ⟨g2, rfl, hg2, hc2⟩ := HXR.out j hjl
      have x0 : w5.cell? ⟨g, j * 3, none⟩ = some (.string (L[j]'hjl).name) := hc 0 (by omega)
      have x1 : w5.cell? ⟨g, j * 3 + 1, none⟩ = some (.bool (L[j]'hjl).dir) := hc 1 (by omega)
      have x2 : w5.cell? ⟨g, j * 3 + 2, none⟩ = some (.int .i64 ((L[j]'hjl).size : Int)) := hc 2 (by omega)
      have y0 : w5.cell? ⟨g2, j * 3, none⟩ = some (.string (L[j]'hjl).name) := hc2 0 (by omega)
      have y1 : w5.cell? ⟨g2, j * 3 + 1, none⟩ = some (.bool (L[j]'hjl).dir) := hc2 1 (by omega)
      have y2 : w5.cell? ⟨g2, j * 3 + 2, none⟩ = some (.int .i64 ((L[j]'hjl).size : Int)) := hc2 2 (by omega)
      generalize (L[j]'hjl).name = nm at x0 y0
      generalize (L[j]'hjl).dir = dr at x1 y1
      generalize (L[j]'hjl).size = sz at x2 y2
      have hteq : (nm.toList == nm.toList) = true := by simp
      have hjI : (j : Int) < (N : Int) := by omega
      clear hc hc2
      go_wp2_with fail
      go_quiet (fail)
      go_wp2
      go_roundg (N - (j + 1))
      case measure => have := hE.out; omega
      case rel => exact ⟨j + 1, by show _ = _; have := hE.out; omega, by omega, by go_num, _, rfl⟩
    · obtain rfl : N = j := by omega
      clear hlt
      go_wp2
      go_ret
      have hb : Below w5.heap.size w5 (w5.drewN nd) := (Below.refl _ _).drewN nd
      obtain ⟨p1, p2, _, _⟩ := HP5.out.below hb
      exact ⟨rfl, p1, fun i v hv => p2 i v (HKK.out i v hv), HBB.out.drewN nd⟩

end
end Go.Proofs.YtmmlefbokplnnaaGreatDoor.Disk

namespace Go.Proofs.YtmmlefbokplnnaaGreatDoor.Disk
open Go.RowKit Go Go.Proofs.YtmmlefbokplnnaaGreatDoor.Base Go.Proofs.YtmmlefbokplnnaaGreatDoor.Map
open Go.Proofs.YtmmlefbokplnnaaGreatDoor.Lab (cmpS cmpS_ord lexL lexL_cons lexL_ord ord8 ord8_ord compareBytes_lex)

theorem lex_lt : ∀ a b : List UInt8, lexL ord8 a b < 0 ↔ a < b
  | [], [] => by simp [lexL]
  | [], y :: b => by simp [lexL]
  | x :: a, [] => by simp [lexL]
  | x :: a, y :: b => by
    rw [lexL_cons, List.cons_lt_cons_iff, ← lex_lt a b]
    unfold ord8
    by_cases h1 : x < y
    · simp [h1]
    · by_cases h2 : y < x
      · have h3 : x ≠ y := fun e => by subst e; exact h1 h2
        simp [h1, h2, h3]
      · have h3 : x = y := by
          apply UInt8.toNat_inj.1
          simp only [UInt8.lt_iff_toNat_lt] at h1 h2
          omega
        simp [h3]
theorem lex_le (a b : List UInt8) : a ≤ b ↔ lexL ord8 a b ≤ 0 := by
  have h1 : a ≤ b ↔ ¬ b < a := Iff.rfl
  rw [h1, ← lex_lt b a]
  have := (lexL_ord ord8_ord).swap a b
  omega

theorem sorted_perm (l : List (List UInt8)) : (sorted l).Perm l := List.mergeSort_perm l _
theorem sorted_pair (l : List (List UInt8)) : (sorted l).Pairwise fun x y => lexL ord8 x y ≤ 0 := by
  have h := List.pairwise_mergeSort (le := fun (x y : List UInt8) => decide (x ≤ y)) (fun a b c h1 h2 => by
    rw [decide_eq_true_eq] at *
    rw [lex_le] at *
    exact (lexL_ord ord8_ord).trans _ _ _ h1 h2) (fun a b => by
    rw [Bool.or_eq_true, decide_eq_true_eq, decide_eq_true_eq, lex_le, lex_le]
    have := (lexL_ord ord8_ord).swap a b
    omega) l
  exact h.imp fun {x y} hxy => by
    rw [decide_eq_true_eq] at hxy
    exact (lex_le x y).1 hxy

theorem part_perm (pf : Thing → Bool) : ∀ (L : List Thing) (ds : List DirG), (ds.map (·.name)).Nodup → (∀ t ∈ L, pf t = true → ∃ x ∈ ds, x.name = dirOf t.path) → (ds.flatMap fun x => L.filter fun t => pf t && decide (dirOf t.path = x.name)).Perm (L.filter pf)
  | [], ds, _, _ => by
    have : ds.flatMap (fun x => ([] : List Thing).filter fun t => pf t && decide (dirOf t.path = x.name)) = [] := by
      rw [List.flatMap_eq_nil_iff]; intro x _; rfl
    rw [this]; simp
  | t :: L, ds, hn, h => by
    have ih := part_perm pf L ds hn fun x hx => h x (List.mem_cons_of_mem _ hx)
    cases hp : pf t
    · rw [List.filter_cons_of_neg (by rw [hp]; simp)]
      refine List.Perm.trans (List.Perm.of_eq ?_) ih
      congr 1
      funext x
      rw [List.filter_cons_of_neg (by rw [hp]; simp)]
    · rw [List.filter_cons_of_pos hp]
      obtain ⟨x0, hx0, hxn⟩ := h t (List.mem_cons_self ..) hp
      obtain ⟨s, r, rfl⟩ := List.append_of_mem hx0
      rw [List.map_append, List.map_cons] at hn
      have hn2 := (List.perm_middle.nodup_iff).1 hn
      rw [List.nodup_cons] at hn2
      have far : ∀ (l : List DirG), (∀ y ∈ l, y.name ≠ dirOf t.path) → (l.flatMap fun x => (t :: L).filter fun t => pf t && decide (dirOf t.path = x.name)) = l.flatMap fun x => L.filter fun t => pf t && decide (dirOf t.path = x.name) := fun l hl => by
        induction l with
        | nil => rfl
        | cons y l ih2 =>
          rw [List.flatMap_cons, List.flatMap_cons, ih2 fun z hz => hl z (List.mem_cons_of_mem _ hz)]
          congr 1
          rw [List.filter_cons_of_neg]
          have := hl y (List.mem_cons_self ..)
          simp only [Bool.and_eq_true, decide_eq_true_eq, not_and]
          exact fun _ e => this e.symm
      have h1 := far s fun y hy e => hn2.1 (List.mem_append_left _ (List.mem_map.2 ⟨y, hy, by rw [e, hxn]⟩))
      have h2 := far r fun y hy e => hn2.1 (List.mem_append_right _ (List.mem_map.2 ⟨y, hy, by rw [e, hxn]⟩))
      rw [List.flatMap_append, List.flatMap_cons, h1, h2, List.filter_cons_of_pos (by rw [hp, hxn]; simp), List.cons_append]
      rw [List.flatMap_append, List.flatMap_cons] at ih
      exact List.perm_middle.trans (ih.cons _)

section
variable {g : TreeG} {L : List Thing} {n : Nat}

theorem allPaths_perm (h : TRel g L) (hw : Wf L n) : (allPaths g.ds).Perm ((L.filter fun t => !t.dir).map fun t => lst t.path) := by
  have h1 : ∀ ds : List DirG, (∀ x ∈ ds, x ∈ g.ds) → (allPaths ds).Perm ((ds.flatMap fun x => filesIn L x.name).map fun t => lst t.path) := by
    intro ds
    induction ds with
    | nil => intro _; simp [allPaths]
    | cons x r ih =>
      intro hm
      have ih := ih fun y hy => hm y (List.mem_cons_of_mem _ hy)
      have hx := hm x (List.mem_cons_self ..)
      unfold allPaths at ih ⊢
      rw [List.flatMap_cons, List.flatMap_cons, List.map_append]
      refine List.Perm.append ?_ ih
      have hp := files_perm h hw ((lookDir_iff h.ok).2 ⟨hx, rfl⟩)
      unfold pathsOf
      refine (hp.map _).trans (List.Perm.of_eq ?_)
      rw [List.map_map]
      apply List.map_congr_left
      intro t ht
      obtain ⟨k1, k2, k3⟩ := mem_filesIn.1 ht
      simp only [Function.comp, nameNum]
      rw [← k3, path_join (hw.file t k1 k2).1]
  refine (h1 g.ds fun _ hx => hx).trans (List.Perm.map _ ?_)
  exact part_perm (fun t => !t.dir) L g.ds h.ok.dirs fun t ht hd => by
    have hd2 : t.dir = false := by simpa using hd
    obtain ⟨x, hx, hn, _⟩ := (h.files (dirOf t.path) (baseOf t.path) t.num).2 ⟨t, ht, hd2, rfl, rfl, rfl⟩
    exact ⟨x, hx, hn⟩

theorem fileE_map (L : List Thing) : L.filterMap fileE = (L.filter fun t => !t.dir).map fun t => (⟨t.path, false, t.num⟩ : Ent) := by
  induction L with
  | nil => rfl
  | cons t r ih =>
    cases hd : t.dir
    · have e : fileE t = some ⟨t.path, false, t.num⟩ := by unfold fileE; rw [hd]; rfl
      rw [List.filterMap_cons_some e, List.filter_cons_of_pos (by rw [hd]; rfl), List.map_cons, ih]
    · have e : fileE t = none := by unfold fileE; rw [hd]; rfl
      rw [List.filterMap_cons_none e, List.filter_cons_of_neg (by rw [hd]; simp), ih]

theorem sortF_names (hw : Wf L n) : ((L.filterMap fileE).map (·.name)).Nodup := by
  rw [fileE_map, List.map_map]
  exact nodup_filter_map (fun (t : Thing) => t.path) _ hw.paths

/-- the paths in their order are the same -/
theorem paths_eq (h : TRel g L) (hw : Wf L n) : sorted (allPaths g.ds) = (sortF L).map fun e => lst e.name := by
  have h1 : (sorted (allPaths g.ds)).Perm ((sortF L).map fun e => lst e.name) := by
    refine ((sorted_perm _).trans (allPaths_perm h hw)).trans ?_
    unfold sortF
    refine List.Perm.trans (List.Perm.of_eq ?_) ((insL_perm _).map _).symm
    rw [fileE_map, List.map_map]
    rfl
  have ha := insL_asc (sortF_names hw)
  have h2 : ((sortF L).map fun e => lst e.name).Pairwise fun x y => lexL ord8 x y < 0 := by
    rw [List.pairwise_map]
    refine List.Pairwise.imp (fun {x y} hxy => ?_) ha
    unfold cmpS at hxy
    rw [compareBytes_lex] at hxy
    exact hxy
  have hnd : (sorted (allPaths g.ds)).Nodup := (h1.nodup_iff).2 (h2.imp fun {x y} hxy e => by
    subst e
    have := (lexL_ord ord8_ord).refl x
    omega)
  have h3 : (sorted (allPaths g.ds)).Pairwise fun x y => lexL ord8 x y < 0 := by
    have hp := sorted_pair (allPaths g.ds)
    rw [List.pairwise_iff_getElem] at hp ⊢
    intro i j hi hj hij
    have k1 := hp i j hi hj hij
    have k2 := List.pairwise_iff_getElem.1 hnd i j hi hj hij
    have k3 : lexL ord8 (sorted (allPaths g.ds))[i] (sorted (allPaths g.ds))[j] ≠ 0 := fun e => k2 ((lexL_ord ord8_ord).eq _ _ e)
    omega
  exact asc_unique (fun x y k k' => by have := (lexL_ord ord8_ord).swap x y; omega) h3 h2 h1

theorem trel_like {dl dx : List DirG} {fm F : Option Nat} {ds : List DirG} (h : TRel ⟨fm, ds⟩ L) (hp : dx.Perm ds) (hl : likeDs dl dx) : TRel ⟨F, dl⟩ L := by
  have hmem : ∀ (a : ByteArray) (fs : List (ByteArray × Nat)), (∃ x ∈ dl, x.name = a ∧ x.files = fs) ↔ ∃ x ∈ ds, x.name = a ∧ x.files = fs := fun a fs => by
    have e1 : ∀ l : List DirG, (∃ x ∈ l, x.name = a ∧ x.files = fs) ↔ (a, fs) ∈ l.map fun x => (x.name, x.files) := fun l => by simp
    rw [e1, e1]
    unfold likeDs at hl
    rw [hl]
    exact (hp.map _).mem_iff
  have hd : ∀ e, hasDir ⟨F, dl⟩ e ↔ hasDir ⟨fm, ds⟩ e := fun e => by
    unfold hasDir
    constructor
    · rintro ⟨x, hx, rfl⟩
      obtain ⟨y, hy, h1, _⟩ := (hmem x.name x.files).1 ⟨x, hx, rfl, rfl⟩
      exact ⟨y, hy, h1⟩
    · rintro ⟨x, hx, rfl⟩
      obtain ⟨y, hy, h1, _⟩ := (hmem x.name x.files).2 ⟨x, hx, rfl, rfl⟩
      exact ⟨y, hy, h1⟩
  have hf : ∀ e k j, hasFile ⟨F, dl⟩ e k j ↔ hasFile ⟨fm, ds⟩ e k j := fun e k j => by
    unfold hasFile
    constructor
    · rintro ⟨x, hx, rfl, hm⟩
      obtain ⟨y, hy, h1, h2⟩ := (hmem x.name x.files).1 ⟨x, hx, rfl, rfl⟩
      exact ⟨y, hy, h1, by rw [h2]; exact hm⟩
    · rintro ⟨x, hx, rfl, hm⟩
      obtain ⟨y, hy, h1, h2⟩ := (hmem x.name x.files).2 ⟨x, hx, rfl, rfl⟩
      exact ⟨y, hy, h1, by rw [h2]; exact hm⟩
  refine ⟨⟨?_, fun x hx => ?_⟩, fun e he => (hd e).trans (h.dirs e he), fun e k j => (hf e k j).trans (h.files e k j)⟩
  · have e1 : dl.map (·.name) = dx.map (·.name) := by
      have := congrArg (List.map Prod.fst) hl
      simpa [List.map_map, Function.comp_def] using this
    show (dl.map (·.name)).Nodup
    rw [e1]
    exact ((hp.map _).nodup_iff).2 h.ok.dirs
  · obtain ⟨y, hy, _, h2⟩ := (hmem x.name x.files).1 ⟨x, hx, rfl, rfl⟩
    rw [← h2]
    exact h.ok.files y hy

def sumL (fs : List FB) (nums : List Nat) : Nat → Nat
  | 0 => 0
  | j + 1 => sumL fs nums j + lenAt fs (nums.getD j 0)

theorem sumL_succ (fs : List FB) (nums : List Nat) (j : Nat) : sumL fs nums (j + 1) = sumL fs nums j + lenAt fs (nums.getD j 0) := rfl
theorem sumL_congr {fs fs' : List FB} {nums : List Nat} : ∀ j, (∀ t, t < j → lenAt fs' (nums.getD t 0) = lenAt fs (nums.getD t 0)) → sumL fs' nums j = sumL fs nums j
  | 0, _ => rfl
  | j + 1, h => by
    unfold sumL
    rw [sumL_congr j fun t ht => h t (by omega), h j (by omega)]

theorem sumL_all (fs : List FB) (nums : List Nat) : sumL fs nums nums.length = (nums.map fun i => lenAt fs i).sum := by
  have key : ∀ j, j ≤ nums.length → sumL fs nums j = ((nums.take j).map fun i => lenAt fs i).sum := by
    intro j
    induction j with
    | zero => intro _; rfl
    | succ j ih =>
      intro hj
      unfold sumL
      rw [ih (by omega), List.take_succ_eq_append_getElem (by omega), List.map_append, List.sum_append, List.getD_eq_getElem?_getD, List.getElem?_eq_getElem (by omega)]
      simp
  rw [key _ (Nat.le_refl _), List.take_length]

theorem usedBy_nums (fs : List FB) (L : List Thing) : usedBy fs L = ((numsF L).map fun i => lenAt fs i).sum := by
  have h1 : (numsF L).Perm ((L.filter fun t => !t.dir).map fun t => t.num) := by
    unfold numsF sortF
    refine ((insL_perm _).map _).trans (List.Perm.of_eq ?_)
    rw [fileE_map, List.map_map]
    rfl
  rw [sum_perm (h1.map _)]
  clear h1
  induction L with
  | nil => rfl
  | cons t r ih =>
    rw [usedBy_cons, ih]
    cases hd : t.dir
    · rw [List.filter_cons_of_pos (by rw [hd]; rfl)]; simp
    · rw [List.filter_cons_of_neg (by rw [hd]; simp)]; simp

theorem numsF_nodup (hw : Wf L n) : (numsF L).Nodup := by
  have h1 : (numsF L).Perm ((L.filter fun t => !t.dir).map fun t => t.num) := by
    unfold numsF sortF
    refine ((insL_perm _).map _).trans (List.Perm.of_eq ?_)
    rw [fileE_map, List.map_map]
    rfl
  refine (h1.nodup_iff).2 (nodup_by (fun t => t.num) (fun (t : Thing) => t.path) (nodup_filter_map (fun (t : Thing) => t.path) _ hw.paths) fun x hx y hy e => ?_)
  rw [List.mem_filter] at hx hy
  exact hw.nums x hx.1 y hy.1 (by simpa using hx.2) (by simpa using hy.2) e

/-- a file of the two disks, and its bounds -/
def Both (S : Nat) (p : PF) (f : FB) : Prop := FRel p f ∧ (p.Good S ∧ unitsOf p.steps ≤ S ∧ p.steps.length ≤ S) ∧ f.steps.length ≤ S ∧ f.safe.length ≤ S ∧ CutsOk f.steps f.safe

theorem Both.keep {S : Nat} {p : PF} {f : FB} (h : Both S p f) (wish : Int) (z : Bool) : Both S (p.keep (share wish (unitsOf p.steps)) z) (f.keep wish z) := by
  obtain ⟨h1, ⟨h2, h3, h4⟩, h5, h6, h7⟩ := h
  have k1 := h1.keep wish z
  have k2 := PF.Good.keep h2 (share wish (unitsOf p.steps)) z
  refine ⟨k1, ⟨k2, by simp [PF.keep, unitsOf], by simp [PF.keep]⟩, by simp [FB.keep], ?_, trivial⟩
  have e : (f.keep wish z).safe = (f.keep wish z).now := rfl
  rw [e, ← k1.now]
  exact k2.len

section
variable {G : DiskG} {m : M} {S : Nat}

theorem kept_both {g : TreeG} (hr : Rel G m S) (hT : TRel g L) (hW : Wf L m.files.length) (data : List Int) (z : Bool) : ∀ j, j ≤ (numsF L).length →
    (∀ i, i < m.files.length → Both S ((keptN g data z (sorted (allPaths g.ds)) G.pfs j).1.getD i ⟨[], []⟩) ((keepAll m.files (numsF L) data z j).getD i ⟨[], [], []⟩)) ∧ (keptN g data z (sorted (allPaths g.ds)) G.pfs j).2 = sumL (keepAll m.files (numsF L) data z j) (numsF L) j
  | 0, _ => ⟨fun i hi => ⟨hr.files i hi, hr.good i hi, hr.docs i hi⟩, rfl⟩
  | j + 1, hj => by
    obtain ⟨ih1, ih2⟩ := kept_both hr hT hW data z j (by omega)
    have hjS : j < (sortF L).length := by unfold numsF at hj; rw [List.length_map] at hj; omega
    have hps := paths_eq hT hW
    obtain ⟨e, he⟩ : ∃ e, (sortF L)[j]'hjS = e := ⟨_, rfl⟩
    have hp1 : (sorted (allPaths g.ds)).getD j [] = lst e.name := by
      rw [hps, List.getD_eq_getElem?_getD, List.getElem?_map, List.getElem?_eq_getElem hjS, he]; rfl
    have hn1 : (numsF L).getD j 0 = e.size := by
      unfold numsF
      rw [List.getD_eq_getElem?_getD, List.getElem?_map, List.getElem?_eq_getElem hjS, he]; rfl
    have hmem : e ∈ sortF L := by rw [← he]; exact List.getElem_mem hjS
    have hmem2 := (insL_perm _).mem_iff.1 hmem
    obtain ⟨t, ht, hte⟩ := List.mem_filterMap.1 hmem2
    have hd : t.dir = false := by
      unfold fileE at hte
      cases hd : t.dir
      · rfl
      · rw [hd] at hte; simp at hte
    have hte2 : (⟨t.path, false, t.num⟩ : Ent) = e := by
      unfold fileE at hte
      rw [hd] at hte
      simpa using hte
    have hfo : fileOf g ⟨((sorted (allPaths g.ds)).getD j []).toArray⟩ = some e.size := by
      rw [hp1, bytes_lst, ← hte2]
      exact (hT.fileAt hW (hW.file t ht hd).1).2 ⟨t, ht, hd, rfl, rfl⟩
    have hi : e.size < m.files.length := by rw [← hte2]; exact hW.lt t ht hd
    have hlp : (keptN g data z (sorted (allPaths g.ds)) G.pfs j).1.length = m.files.length := by rw [keptN_length, hr.len]
    have hlf : (keepAll m.files (numsF L) data z j).length = m.files.length := keepAll_length _ _ _ _ _
    have hnd := numsF_nodup hW
    rw [keptN]
    simp only [hfo]
    rw [keepAll]
    simp only [hn1]
    obtain ⟨pf, hpf⟩ : ∃ pf, (keptN g data z (sorted (allPaths g.ds)) G.pfs j).1 = pf := ⟨_, rfl⟩
    obtain ⟨fs, hfs⟩ : ∃ fs, keepAll m.files (numsF L) data z j = fs := ⟨_, rfl⟩
    rw [hpf] at ih1 hlp ⊢
    rw [hfs] at ih1 ih2 hlf ⊢
    have hk := (ih1 e.size hi).keep (wishAt data j) z
    have hpe : (pf.modify e.size (pfKeep data z j)).getD e.size ⟨[], []⟩ = (pf.getD e.size ⟨[], []⟩).keep (share (wishAt data j) (unitsOf (pf.getD e.size ⟨[], []⟩).steps)) z := by
      rw [List.getD_eq_getElem?_getD, List.getElem?_modify_eq, List.getD_eq_getElem?_getD, List.getElem?_eq_getElem (by rw [hlp]; exact hi)]
      rfl
    have hfe : (fs.set e.size ((fs.getD e.size ⟨[], [], []⟩).keep (wishAt data j) z)).getD e.size ⟨[], [], []⟩ = (fs.getD e.size ⟨[], [], []⟩).keep (wishAt data j) z := by
      rw [List.getD_eq_getElem?_getD (l := fs.set _ _), List.getElem?_set_self (by rw [hlf]; exact hi)]; rfl
    refine ⟨fun i hi2 => ?_, ?_⟩
    · by_cases hie : i = e.size
      · subst hie
        rw [hpe, hfe]
        exact hk
      · have a1 : (pf.modify e.size (pfKeep data z j)).getD i ⟨[], []⟩ = pf.getD i ⟨[], []⟩ := by
          have hne : ¬ e.size = i := fun h => hie h.symm
          rw [List.getD_eq_getElem?_getD, List.getD_eq_getElem?_getD, List.getElem?_modify]
          simp [hne]
        have a2 : (fs.set e.size ((fs.getD e.size ⟨[], [], []⟩).keep (wishAt data j) z)).getD i ⟨[], [], []⟩ = fs.getD i ⟨[], [], []⟩ := by
          rw [List.getD_eq_getElem?_getD (l := fs.set _ _), List.getElem?_set_ne (fun h => hie h.symm), ← List.getD_eq_getElem?_getD]
        rw [a1, a2]
        exact ih1 i hi2
    · rw [ih2, sumL_succ, hn1]
      have b1 : sumL (fs.set e.size ((fs.getD e.size ⟨[], [], []⟩).keep (wishAt data j) z)) (numsF L) j = sumL fs (numsF L) j := sumL_congr j fun t ht2 => by
        rw [lenAt_set (by rw [hlf]; exact hi), if_neg]
        show ¬ (numsF L).getD t 0 = e.size
        rw [← hn1]
        exact getD_ne hnd (by omega) (by omega) (by omega)
      rw [b1, lenAt_set (by rw [hlf]; exact hi), if_pos rfl]
      congr 1
      have c1 : lenP (pf.modify e.size (pfKeep data z j)) e.size = ((pf.modify e.size (pfKeep data z j)).getD e.size ⟨[], []⟩).bytes.length := by
        unfold lenP
        rw [List.getD_eq_getElem?_getD]
        cases (pf.modify e.size (pfKeep data z j))[e.size]? <;> rfl
      rw [c1, hpe, hk.1.now]

/-- a Restart -/
theorem Rel.restarted (hr : Rel G m S) (names : Int) (data : List Int) (z : Bool) {gd' : TreeG} {F : Nat} {dl dx : List DirG} {G' : DiskG} (h1 : AppAll (G.nsteps.take (share names G.steps.length)) G.gd gd') (h2 : dx.Perm gd'.ds) (h3 : likeDs dl dx)
    (h4 : G' = { G with gc := ⟨some F, dl⟩, gd := gd', pfs := (keptN ⟨some F, dl⟩ data z (sorted (allPaths dl)) G.pfs (sorted (allPaths dl)).length).1, used := (keptN ⟨some F, dl⟩ data z (sorted (allPaths dl)) G.pfs (sorted (allPaths dl)).length).2, bvs := G'.bvs, svs := G'.svs, steps := [], nv := .slice none 0 0, off := false, crash := 0 }) :
    Rel G' (m.restart names data z) S := by
  obtain ⟨c1, _⟩ := hr.chain.split (share names m.steps.length)
  rw [hr.steps, hr.nslen] at h1
  obtain ⟨t1, w1⟩ := Chain.trel hr.dur hr.wfd c1 h1
  have hlen := appliedAll_length (m.steps.take (share names m.steps.length)) m.safe
  obtain ⟨L, hL⟩ : ∃ L, appliedAll m.safe (m.steps.take (share names m.steps.length)) = L := ⟨_, rfl⟩
  rw [hL] at t1 w1 hlen
  have hLS : L.length ≤ S := by
    have := hr.nd
    rw [List.length_take] at hlen
    omega
  obtain ⟨fm, ds⟩ := gd'
  have t2 : TRel ⟨some F, dl⟩ L := trel_like t1 h2 h3
  have hpl : (sorted (allPaths dl)).length = (numsF L).length := by
    have := paths_eq t2 w1
    simp only at this
    rw [this]
    unfold numsF
    rw [List.length_map, List.length_map]
  obtain ⟨k1, k2⟩ := kept_both hr t2 w1 data z (numsF L).length (Nat.le_refl _)
  simp only at k1 k2
  rw [← hpl] at k1 k2
  have hm : m.restart names data z = { things := L, safe := L, steps := [], files := keepAll m.files (numsF L) data z (sorted (allPaths dl)).length, cap := m.cap, off := false, await := 0 } := by
    unfold M.restart
    rw [hL, hpl]
  rw [hm, h4]
  have hfl : (keepAll m.files (numsF L) data z (sorted (allPaths dl)).length).length = m.files.length := keepAll_length _ _ _ _ _
  refine ⟨t2, t1, by simp only; rw [hfl]; exact w1, by simp only; rw [hfl]; exact w1, rfl, rfl, ?_, fun i hi => ?_, fun i hi => ?_, fun i hi => ?_, hr.cap, hr.capl, rfl, fun _ => rfl, by show (0 : Nat) < _; omega, by show (0 : Nat) < _; omega, ?_, hLS, ?_, by simp, ?_⟩
  · simp only
    rw [keptN_length, hfl, hr.len]
  · exact (k1 i (by rw [← hfl]; exact hi)).1
  · exact (k1 i (by rw [← hfl]; exact hi)).2.1
  · exact (k1 i (by rw [← hfl]; exact hi)).2.2
  · simp only
    rw [k2, usedBy_nums, ← sumL_all, hpl]
  · show L.length + 0 ≤ S; omega
  · show (keepAll m.files (numsF L) data z (sorted (allPaths dl)).length).length ≤ S
    rw [hfl]; exact hr.nf

/-- the names as a Restart finds them -/
theorem Rel.plain (hr : Rel G m S) (hS : S ≤ 1048576) (names : Int) : ∀ gm, AppAll (G.nsteps.take (share names G.steps.length)) G.gd gm → Plain gm G.pfs.length ∧ (allPaths gm.ds).length ≤ 1048576 := fun gm h1 => by
  obtain ⟨c1, _⟩ := hr.chain.split (share names m.steps.length)
  rw [hr.steps, hr.nslen] at h1
  obtain ⟨t1, w1⟩ := Chain.trel hr.dur hr.wfd c1 h1
  have hlen := appliedAll_length (m.steps.take (share names m.steps.length)) m.safe
  refine ⟨⟨fun x hx => ?_, fun x hx p hp => ?_⟩, ?_⟩
  · by_cases h0 : x.name.size = 0
    · rw [size_zero h0]; exact ⟨noSl_empty, by decide⟩
    · obtain ⟨t, ht, hd, hp⟩ := (t1.dirs x.name h0).1 ⟨x, hx, rfl⟩
      have hn := w1.dir t ht hd
      rw [hp] at hn
      exact ⟨name_noSl hn, by have := name_size hn; omega⟩
  · obtain ⟨t, ht, hd, h2, h3, h4⟩ := (t1.files x.name p.1 p.2).1 ⟨x, hx, rfl, hp⟩
    have hb := path_base (w1.file t ht hd).1
    rw [h3] at hb
    refine ⟨name_noSl hb, by have := name_size hb; omega, ?_⟩
    rw [hr.len, ← h4]
    exact w1.lt t ht hd
  · have := (allPaths_perm t1 w1).length_eq
    rw [this, List.length_map]
    have := List.length_filter_le (fun t : Thing => !t.dir) (appliedAll m.safe (m.steps.take (share names m.steps.length)))
    have := hr.nd
    rw [List.length_take] at hlen
    omega

/-- the bounds that the document's Restart asks -/
theorem Rel.limR (hr : Rel G m S) (hS : S ≤ 1048576) : LimR m := by
  have hv : ∀ j (hj : j < m.steps.length), Valid (appliedAll m.safe (m.steps.take j)) (m.steps[j]'hj) ∧ (m.steps[j]'hj).b.size < 4294967281 := fun j hj => (hr.chain.split j).2 hj
  have hw : ∀ k, Wf (appliedAll m.safe (m.steps.take k)) m.files.length := fun k => by
    have key : ∀ (ss : List NStep) (l l' : List Thing), Wf l m.files.length → Chain m.files.length l ss l' → Wf l' m.files.length := by
      intro ss
      induction ss with
      | nil => intro l l' h1 h2; have h2 : l' = l := h2; rw [h2]; exact h1
      | cons s r ih => intro l l' h1 h2; exact ih _ _ (wf_applied h1 h2.1 h2.2.1) h2.2.2.2
    exact key _ _ _ hr.wfd (hr.chain.split k).1
  refine ⟨fun s hs => ?_, fun k => ⟨?_, fun x hx => ⟨?_, fun hd => (hw k).lt x hx hd⟩⟩, fun k => numsF_nodup (hw k), fun i hi => ?_⟩
  · obtain ⟨j, hj, rfl⟩ := List.getElem_of_mem hs
    obtain ⟨v1, v2⟩ := hv j hj
    rcases v1 with ⟨k, h1, _⟩ | ⟨k, h1, _⟩ | ⟨k, h1, _⟩ | ⟨k, h1, _⟩
    · exact ⟨.inl k, by have := name_size h1; omega, by omega⟩
    · exact ⟨.inr (.inl k), by have := path_le h1; omega, by omega⟩
    · exact ⟨.inr (.inr (.inl k)), by have := path_le h1; omega, by omega⟩
    · exact ⟨.inr (.inr (.inr k)), by have := path_le h1; omega, by omega⟩
  · have := appliedAll_length (m.steps.take k) m.safe
    have := hr.nd
    rw [List.length_take] at *
    omega
  · have := path_le ((hw k).anyPath hx); omega
  · obtain ⟨d1, d2, d3⟩ := hr.docs i hi
    have h1 := hr.files i hi
    have h2 := (hr.good i hi).2.1
    rw [h1.units] at h2
    exact ⟨by omega, by omega, by omega, d3, h1.fit⟩

end
end
end Go.Proofs.YtmmlefbokplnnaaGreatDoor.Disk

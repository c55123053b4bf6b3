/-
  Labels held against one another: contracts of cmp.Or, compareLabels. Own text.
-/
import Derived.Test.YtcpkogboaniehaaLName
import Derived.Test.YtcpkogboaniehaaLOrd
import Derived.Shelf.Small.Strs
import Derived.Shelf.Lay
import Derived.Ground.NamesProg
import Derived.Shelf.SlSortCmp.NoneTotal
import Derived.StillTailTactics
namespace Go.Proofs
open Go.Shelf
shelf_lay Lays.n106 Nm 106 at Try as Try.strCmp
end Go.Proofs
namespace Go.Proofs.Ytcpkogboaniehaa.Lab
open Go.RowKit Go Go.Proofs.Ytcpkogboaniehaa.Base Go.Shelf Go.Sort


theorem strCmp_any (a b : ByteArray) (w : World) :
    Calls Try.prog 68 #[.string a, .string b] w fun e w' => e = .returned (.int .i64 (cmpS a b)) ∧ w = w' := by
  have h := Any.strings_Compare Try.strCmp a b w
  change Calls Try.prog 68 _ _ _ at h
  exact h.mono fun e w' ⟨h1, h2⟩ => ⟨h1, h2.symm⟩

theorem or_any (b : Nat) (x y : Int) (w : World) (h0 : w.cell? ⟨b, 0, none⟩ = some (.int .i64 x)) (h1 : w.cell? ⟨b, 1, none⟩ = some (.int .i64 y)) :
    Calls Try.prog 67 #[.slice (some ⟨b, 0, none⟩) 2 2] w fun e w' => e = .returned (.int .i64 (if x ≠ 0 then x else y)) ∧ w = w' := by
  by_cases hx : x = 0
  · rw [if_neg (by omega)]
    have hx2 : (x != 0) = false := by rw [hx]; rfl
    have HX := Lib.hid hx
    clear hx
    by_cases hy : y = 0
    · have hy2 : (y != 0) = false := by rw [hy]; rfl
      have HY := Lib.hid hy
      clear hy
      go_enter Try.func67, Try.ntmps67
      go_wp2_with fail
      refine wp_loop_rounds 3 ?_
      rw [rounds_succ]
      go_wp2_with fail
      rw [rounds_succ]
      go_wp2_with fail
      rw [rounds_succ]
      go_wp2_with fail
      go_ret
      exact ⟨ret_int HY.out.symm, rfl⟩
    · have hy2 : (y != 0) = true := by rw [bne_iff_ne]; exact hy
      go_enter Try.func67, Try.ntmps67
      go_wp2_with fail
      refine wp_loop_rounds 3 ?_
      rw [rounds_succ]
      go_wp2_with fail
      rw [rounds_succ]
      go_wp2_with fail
      go_ret
      exact ⟨rfl, rfl⟩
  · rw [if_pos hx]
    have hx2 : (x != 0) = true := by rw [bne_iff_ne]; exact hx
    go_enter Try.func67, Try.ntmps67
    go_wp2_with fail
    refine wp_loop_rounds 3 ?_
    rw [rounds_succ]
    go_wp2_with fail
    go_ret
    exact ⟨rfl, rfl⟩

theorem or_val (R : Int) (b : Nat) (x y : Int) (w : World) (hR : (if x ≠ 0 then x else y) = R) (h0 : w.cell? ⟨b, 0, none⟩ = some (.int .i64 x)) (h1 : w.cell? ⟨b, 1, none⟩ = some (.int .i64 y)) :
    Calls Try.prog 67 #[.slice (some ⟨b, 0, none⟩) 2 2] w fun e w' => e = .returned (.int .i64 R) ∧ w = w' := by
  rw [← hR]; exact or_any b x y w h0 h1
theorem cell_new {W : World} {k i : Nat} {vs : Array Value} {t : TypeId} {v : Value} (hk : k = W.heap.size) (hv : vs[i]? = some v) : (W.alloc (.cells vs t)).cell? ⟨k, i, none⟩ = some v := by
  subst hk
  rw [World.cell?_alloc_new]
  exact hv
theorem cell_new_drew {W : World} {k i : Nat} {vs : Array Value} {t : TypeId} {v : Value} (hk : k = W.heap.size) (hv : vs[i]? = some v) : (W.alloc (.cells vs t)).drew.cell? ⟨k, i, none⟩ = some v := cell_new hk hv

set_option maxRecDepth 100000 in
set_option maxHeartbeats 4000000 in
theorem compareLabels_any (x y : Lab) (w : World) :
    Calls Try.prog 53 #[x.val, y.val] w fun e w' => e = .returned (.int .i64 (cmpLab x y)) ∧ ∃ q os, w' = grow (w.drewN q) os := by
  obtain ⟨n, v⟩ := x
  obtain ⟨n', v'⟩ := y
  unfold cmpLab Lab.val
  simp only
  have h1 := fun W => strCmp_any n n' W
  have h2 := fun W => strCmp_any v v' W
  generalize cmpS n n' = a at *
  generalize cmpS v v' = b at *
  have H1 := Lib.hid h1
  have H2 := Lib.hid h2
  clear h1 h2
  obtain ⟨R, hR⟩ : ∃ R, (if a ≠ 0 then a else b) = R := ⟨_, rfl⟩
  have HR := Lib.hid hR
  rw [hR]
  clear hR
  go_enter Try.func53, Try.ntmps53
  go_wp2_with fail
  obtain ⟨wc, hwc⟩ : ∃ wc, wc = (w.alloc (.cells #[.string n, .string v] 69)).alloc (.cells #[.string n', .string v'] 69) := ⟨_, rfl⟩
  rw [← hwc]
  have c0 : wc.drew.cell? ⟨w.heap.size, 0, none⟩ = some (.string n) := by rw [hwc]; simp
  have c1 : wc.drew.cell? ⟨w.heap.size, 1, none⟩ = some (.string v) := by rw [hwc]; simp
  have c2 : wc.drew.cell? ⟨w.heap.size + 1, 0, none⟩ = some (.string n') := by rw [hwc]; exact cell_new (by rw [World.size_alloc]) rfl
  have c3 : wc.drew.cell? ⟨w.heap.size + 1, 1, none⟩ = some (.string v') := by rw [hwc]; exact cell_new (by rw [World.size_alloc]) rfl
  have HWC := Lib.hid hwc
  clear hwc
  refine wp_region_still_tail 10 (by kernel_rfl) (by kernel_rfl) ?_
  simp only [List.take_succ_cons, List.take_zero, List.drop_succ_cons, List.drop_zero]
  change wpStill _ _ wc.drew _ _ _
  repeat still_step
  refine wpStill_step (fun K hK => ?_)
  go_simp
  refine ⟨_, (H1.out _).mono (fun e w' h => ⟨h.1, h.2.symm⟩), hK _ ?_⟩
  clear hK K
  repeat still_step
  refine wpStill_step (fun K hK => ?_)
  go_simp
  refine ⟨_, (H2.out _).mono (fun e w' h => ⟨h.1, h.2.symm⟩), hK _ ?_⟩
  clear hK K
  repeat still_step
  refine wpStill_nil ?_
  change wpList _ _ _ _ _ wc.drew
  go_wp2_with (go_at_call 67; refine (or_val R _ a b _ HR.out ?_ ?_).mono ?_; exact cell_new rfl rfl; exact cell_new rfl rfl; rintro e w1 ⟨rfl, rfl⟩)
  go_ret
  refine ⟨rfl, 1, #[.cells #[.string n, .string v] 69, .cells #[.string n', .string v'] 69, .cells #[.int .i64 a, .int .i64 b] 3], ?_⟩
  rw [HWC.out, alloc_eq_grow, alloc_eq_grow, alloc_eq_grow, drew_grow, grow_grow, drew_grow, grow_grow]
  rfl

theorem compareLabels_lays (blk off size : Nat) (w : World) : CmpLays Try.prog 53 #[] Lab.cells 2 cmpLab blk off size w :=
  fun _ _ _ _ x y => compareLabels_any x y _

theorem below_grown {w : World} (q : Nat) (os : Array Obj) : Below w.heap.size w (grow (w.drewN q) os) :=
  ⟨rfl, rfl, rfl, by simp [grow], fun i hi => by
    show ((w.drewN q).heap ++ os)[i]? = _
    rw [Array.getElem?_append_left (by show i < w.heap.size; omega)]
    rfl⟩
end Go.Proofs.Ytcpkogboaniehaa.Lab

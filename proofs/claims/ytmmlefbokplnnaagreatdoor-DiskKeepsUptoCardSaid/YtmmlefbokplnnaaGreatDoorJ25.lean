/-
  The texts RApply1, RApply3, RPut, joined. Own text.
-/
import Derived.Test.YtmmlefbokplnnaaGreatDoorJ24
set_option linter.unusedVariables false
set_option linter.unusedSimpArgs false
namespace Go.Proofs.YtmmlefbokplnnaaGreatDoor.Disk
open Go.RowKit Go Go.Proofs.YtmmlefbokplnnaaGreatDoor.Base Go.Proofs.YtmmlefbokplnnaaGreatDoor.Map

set_option maxRecDepth 100000 in
set_option maxHeartbeats 1000000 in
theorem apply1_ref {w : World} {v : Value} {l : List Thing} (h : w.ownsRow 0 83 3 v l.length (l.flatMap thingC)) (hl : l.length < 1000000000000) (a b : ByteArray) (num : Nat) (hs : ∀ x ∈ l, x.path.size < 4611686018427387904) (ha : a.size < 4611686018427387904) :
    Calls Tryz.prog 52 #[v, .agg #[.int .i64 1, .string a, .string b, .int .i64 (num : Int)]] w fun r w' => ∃ v', r = .returned v' ∧ Out w (l.filterMap (moved ⟨1, a, b, num⟩) ++ [⟨a, true, 0⟩]) w' v' := by
  obtain ⟨N, hN⟩ : ∃ N, l.length = N := ⟨_, rfl⟩
  rw [hN] at h hl
  obtain ⟨ao, cap, rfl, hcap, hr⟩ := row_open (f := thingC) (k := 3) (fun _ => rfl) h hN
  have HR := Lib.hid hr
  have HN := Lib.hid hN
  have HS := Lib.hid hs
  clear h hr hN hs
  go_enter Tryz.func52, Tryz.ntmps52
  go_wp2_with fail
  have hO := Out.nil (w.alloc (.cells #[.int .i64 1, .string a, .string b, .int .i64 (num : Int)] 97)) _ (Below.refl _ _)
  have HO := Lib.hid hO
  clear hO
  obtain ⟨w1, hw1⟩ : ∃ w1, w.alloc (.cells #[.int .i64 1, .string a, .string b, .int .i64 (num : Int)] 97) = w1 := ⟨_, rfl⟩
  have hb0 : w1.heap[w.heap.size]? = some (.cells #[.int .i64 1, .string a, .string b, .int .i64 (num : Int)] 97) := by rw [← hw1]; exact heap_alloc_new w _
  have hR1 : Hid (RowAt w1 ao thingC 3 l) := Lib.hid (by
    subst hw1
    exact HR.out.below (below_alloc _ _))
  have hs1 : w1.heap.size = w.heap.size + 1 := by rw [← hw1]; simp
  rw [hw1]
  go_loopg [5, 6] N (fun r u i wr => ∃ (j : Nat), Hid (j + r = N) ∧ j ≤ N ∧ i = .int .i64 (j : Int) ∧ Hid (Out w1 ((l.take j).filterMap (moved ⟨1, a, b, num⟩)) wr u))
  case atStart => exact ⟨0, Nat.zero_add _, Nat.zero_le _, rfl, by rw [List.take_zero]; rw [hw1] at HO; exact HO⟩
  case round =>
    obtain ⟨j, hE, hj, rfl, HU⟩ := hrel
    by_cases hlt : j < N
    · have hjl : j < l.length := by rw [HN.out]; exact hlt
      obtain ⟨g, rfl, hg, hc⟩ := hR1.out j hjl
      have hbel := HU.out.below
      have hzl : w.heap.size < w1.heap.size := by omega
      have c0 : wr.cell? ⟨g, j * 3, none⟩ = some (.string (l[j]'hjl).path) := (hbel.cell hg).trans (hc 0 (by omega))
      have c1 : wr.cell? ⟨g, j * 3 + 1, none⟩ = some (.bool (l[j]'hjl).dir) := (hbel.cell hg).trans (hc 1 (by omega))
      have c2 : wr.cell? ⟨g, j * 3 + 2, none⟩ = some (.int .i64 ((l[j]'hjl).num : Int)) := (hbel.cell hg).trans (hc 2 (by omega))
      have z0 : wr.cell? ⟨w.heap.size, 0, none⟩ = some (.int .i64 1) := (hbel.cell hzl).trans (by rw [cell_of_row w1 w.heap.size 0 _ _ _ hb0]; rfl)
      have z1 : wr.cell? ⟨w.heap.size, 1, none⟩ = some (.string a) := (hbel.cell hzl).trans (by rw [cell_of_row w1 w.heap.size 1 _ _ _ hb0]; rfl)
      have z2 : wr.cell? ⟨w.heap.size, 2, none⟩ = some (.string b) := (hbel.cell hzl).trans (by rw [cell_of_row w1 w.heap.size 2 _ _ _ hb0]; rfl)
      have hin := fun W => inside_ref (l[j]'hjl).path a (HS.out _ (List.getElem_mem hjl)) ha W
      have htk := applied_take (s := ⟨1, a, b, num⟩) hjl
      have hcnt : ((l.take j).filterMap (moved ⟨1, a, b, num⟩)).length < 1099511627776 := by
        refine Nat.lt_of_le_of_lt (List.length_filterMap_le _ _) ?_
        rw [List.length_take]; omega
      obtain ⟨ua, uc, rfl⟩ := HU.out.shape
      obtain ⟨x, hx⟩ : ∃ x, l[j]'hjl = x := ⟨_, rfl⟩
      rw [hx] at c0 c1 c2 hin htk
      have hwl : w.heap.size < wr.heap.size := Nat.lt_of_lt_of_le hzl hbel.size
      have y0 : (wr.alloc (.cells #[.string x.path, .bool x.dir, .int .i64 (x.num : Int)] 83)).cell? ⟨w.heap.size, 0, none⟩ = some (.int .i64 1) := ((below_alloc wr _).cell hwl).trans z0
      have y1 : (wr.alloc (.cells #[.string x.path, .bool x.dir, .int .i64 (x.num : Int)] 83)).cell? ⟨w.heap.size, 1, none⟩ = some (.string a) := ((below_alloc wr _).cell hwl).trans z1
      have y2 : (wr.alloc (.cells #[.string x.path, .bool x.dir, .int .i64 (x.num : Int)] 83)).cell? ⟨w.heap.size, 2, none⟩ = some (.string b) := ((below_alloc wr _).cell hwl).trans z2
      obtain ⟨v', w', hrun, hpush⟩ := ((HU.out.alloc (.cells #[.string x.path, .bool x.dir, .int .i64 (x.num : Int)] 83)).alloc (.cells #[.string x.path, .bool x.dir, .int .i64 (x.num : Int)] 83)).push x _ (heap_alloc_new _ _) hcnt
      obtain ⟨LN, hLN⟩ : ∃ LN, ((l.take j).filterMap (moved ⟨1, a, b, num⟩)).length = LN := ⟨_, rfl⟩
      have hs2 : (wr.alloc (.cells #[.string x.path, .bool x.dir, .int .i64 (x.num : Int)] 83)).heap.size = wr.heap.size + 1 := by simp
      rw [hLN, hs2] at hrun
      rw [hLN] at HU
      have HRun := Lib.hid hrun
      have HPush := Lib.hid hpush
      have HTK := Lib.hid htk
      have HIN := Lib.hid hin
      clear hs2 hrun hpush htk hin hc hx hcnt hbel hzl hwl z0 z1 z2
      have hm : moved ⟨1, a, b, num⟩ x = some x := by unfold moved; rw [if_neg (by show ¬ ((1 : Nat) = 4); decide), if_neg (by show ¬ ((1 : Nat) = 3); decide)]
      have HM := Lib.hid hm
      clear hm
      go_wp2_with (first
        | (go_at_call 62; ((with_reducible refine (HIN.out _).mono ?_); rintro r w2 ⟨rfl, rfl⟩))
        | (at_builtin; refine Row.append_by rfl (.tmp 62) (.tmp 64) _ rfl _ _ rfl rfl HRun.out ?_))
      go_roundg (N - (j + 1))
      case measure => have := hE.out; omega
      case rel =>
        exact ⟨j + 1, by show _ = _; omega, by omega, by go_num, by show Out _ _ _ _; rw [HTK.out, HM.out]; exact HPush.out⟩
    · obtain rfl : j = N := by omega
      have hbel := HU.out.below
      have hzl : w.heap.size < w1.heap.size := by omega
      have z0 : wr.cell? ⟨w.heap.size, 0, none⟩ = some (.int .i64 1) := (hbel.cell hzl).trans (by rw [cell_of_row w1 w.heap.size 0 _ _ _ hb0]; rfl)
      have hall : l.take j = l := by rw [List.take_of_length_le]; rw [HN.out]; exact Nat.le_refl _
      rw [hall] at HU
      have z1 : wr.cell? ⟨w.heap.size, 1, none⟩ = some (.string a) := (hbel.cell hzl).trans (by rw [cell_of_row w1 w.heap.size 1 _ _ _ hb0]; rfl)
      have z3 : wr.cell? ⟨w.heap.size, 3, none⟩ = some (.int .i64 (num : Int)) := (hbel.cell hzl).trans (by rw [cell_of_row w1 w.heap.size 3 _ _ _ hb0]; rfl)
      have hcnt : (l.filterMap (moved ⟨1, a, b, num⟩)).length < 1099511627776 := by
        refine Nat.lt_of_le_of_lt (List.length_filterMap_le _ _) ?_
        rw [HN.out]; omega
      obtain ⟨ua, uc, rfl⟩ := HU.out.shape
      obtain ⟨v', w', hrun, hpush⟩ := (HU.out.alloc (.cells #[.string a, .bool true, .int .i64 0] 83)).push ⟨a, true, 0⟩ _ (heap_alloc_new _ _) hcnt
      obtain ⟨LN, hLN⟩ : ∃ LN, (l.filterMap (moved ⟨1, a, b, num⟩)).length = LN := ⟨_, rfl⟩
      rw [hLN] at hrun
      rw [hLN] at HU ⊢
      have HRun := Lib.hid hrun
      have HPush := Lib.hid hpush
      clear hrun hpush hcnt
      have HB1 : Hid (Below w.heap.size w w1) := Lib.hid (by rw [← hw1]; exact below_alloc _ _)
      clear hlt hE hbel hall hzl
      go_wp2_with (at_builtin; refine Row.append_by rfl (.tmp 70) (.tmp 74) _ rfl _ _ rfl rfl HRun.out ?_)
      go_ret
      exact ⟨_, rfl, HPush.out.row, HB1.out.trans (HPush.out.below.mono HB1.out.size), fun k hk => Nat.le_trans HB1.out.size (HPush.out.fresh k hk)⟩

set_option maxRecDepth 100000 in
set_option maxHeartbeats 1000000 in
theorem apply2_ref {w : World} {v : Value} {l : List Thing} (h : w.ownsRow 0 83 3 v l.length (l.flatMap thingC)) (hl : l.length < 1000000000000) (a b : ByteArray) (num : Nat) (hs : ∀ x ∈ l, x.path.size < 4611686018427387904) (ha : a.size < 4611686018427387904) :
    Calls Tryz.prog 52 #[v, .agg #[.int .i64 2, .string a, .string b, .int .i64 (num : Int)]] w fun r w' => ∃ v', r = .returned v' ∧ Out w (l.filterMap (moved ⟨2, a, b, num⟩) ++ [⟨a, false, num⟩]) w' v' := by
  obtain ⟨N, hN⟩ : ∃ N, l.length = N := ⟨_, rfl⟩
  rw [hN] at h hl
  obtain ⟨ao, cap, rfl, hcap, hr⟩ := row_open (f := thingC) (k := 3) (fun _ => rfl) h hN
  have HR := Lib.hid hr
  have HN := Lib.hid hN
  have HS := Lib.hid hs
  clear h hr hN hs
  go_enter Tryz.func52, Tryz.ntmps52
  go_wp2_with fail
  have hO := Out.nil (w.alloc (.cells #[.int .i64 2, .string a, .string b, .int .i64 (num : Int)] 97)) _ (Below.refl _ _)
  have HO := Lib.hid hO
  clear hO
  obtain ⟨w1, hw1⟩ : ∃ w1, w.alloc (.cells #[.int .i64 2, .string a, .string b, .int .i64 (num : Int)] 97) = w1 := ⟨_, rfl⟩
  have hb0 : w1.heap[w.heap.size]? = some (.cells #[.int .i64 2, .string a, .string b, .int .i64 (num : Int)] 97) := by rw [← hw1]; exact heap_alloc_new w _
  have hR1 : Hid (RowAt w1 ao thingC 3 l) := Lib.hid (by
    subst hw1
    exact HR.out.below (below_alloc _ _))
  have hs1 : w1.heap.size = w.heap.size + 1 := by rw [← hw1]; simp
  rw [hw1]
  go_loopg [5, 6] N (fun r u i wr => ∃ (j : Nat), Hid (j + r = N) ∧ j ≤ N ∧ i = .int .i64 (j : Int) ∧ Hid (Out w1 ((l.take j).filterMap (moved ⟨2, a, b, num⟩)) wr u))
  case atStart => exact ⟨0, Nat.zero_add _, Nat.zero_le _, rfl, by rw [List.take_zero]; rw [hw1] at HO; exact HO⟩
  case round =>
    obtain ⟨j, hE, hj, rfl, HU⟩ := hrel
    by_cases hlt : j < N
    · have hjl : j < l.length := by rw [HN.out]; exact hlt
      obtain ⟨g, rfl, hg, hc⟩ := hR1.out j hjl
      have hbel := HU.out.below
      have hzl : w.heap.size < w1.heap.size := by omega
      have c0 : wr.cell? ⟨g, j * 3, none⟩ = some (.string (l[j]'hjl).path) := (hbel.cell hg).trans (hc 0 (by omega))
      have c1 : wr.cell? ⟨g, j * 3 + 1, none⟩ = some (.bool (l[j]'hjl).dir) := (hbel.cell hg).trans (hc 1 (by omega))
      have c2 : wr.cell? ⟨g, j * 3 + 2, none⟩ = some (.int .i64 ((l[j]'hjl).num : Int)) := (hbel.cell hg).trans (hc 2 (by omega))
      have z0 : wr.cell? ⟨w.heap.size, 0, none⟩ = some (.int .i64 2) := (hbel.cell hzl).trans (by rw [cell_of_row w1 w.heap.size 0 _ _ _ hb0]; rfl)
      have z1 : wr.cell? ⟨w.heap.size, 1, none⟩ = some (.string a) := (hbel.cell hzl).trans (by rw [cell_of_row w1 w.heap.size 1 _ _ _ hb0]; rfl)
      have z2 : wr.cell? ⟨w.heap.size, 2, none⟩ = some (.string b) := (hbel.cell hzl).trans (by rw [cell_of_row w1 w.heap.size 2 _ _ _ hb0]; rfl)
      have hin := fun W => inside_ref (l[j]'hjl).path a (HS.out _ (List.getElem_mem hjl)) ha W
      have htk := applied_take (s := ⟨2, a, b, num⟩) hjl
      have hcnt : ((l.take j).filterMap (moved ⟨2, a, b, num⟩)).length < 1099511627776 := by
        refine Nat.lt_of_le_of_lt (List.length_filterMap_le _ _) ?_
        rw [List.length_take]; omega
      obtain ⟨ua, uc, rfl⟩ := HU.out.shape
      obtain ⟨x, hx⟩ : ∃ x, l[j]'hjl = x := ⟨_, rfl⟩
      rw [hx] at c0 c1 c2 hin htk
      have hwl : w.heap.size < wr.heap.size := Nat.lt_of_lt_of_le hzl hbel.size
      have y0 : (wr.alloc (.cells #[.string x.path, .bool x.dir, .int .i64 (x.num : Int)] 83)).cell? ⟨w.heap.size, 0, none⟩ = some (.int .i64 2) := ((below_alloc wr _).cell hwl).trans z0
      have y1 : (wr.alloc (.cells #[.string x.path, .bool x.dir, .int .i64 (x.num : Int)] 83)).cell? ⟨w.heap.size, 1, none⟩ = some (.string a) := ((below_alloc wr _).cell hwl).trans z1
      have y2 : (wr.alloc (.cells #[.string x.path, .bool x.dir, .int .i64 (x.num : Int)] 83)).cell? ⟨w.heap.size, 2, none⟩ = some (.string b) := ((below_alloc wr _).cell hwl).trans z2
      obtain ⟨v', w', hrun, hpush⟩ := ((HU.out.alloc (.cells #[.string x.path, .bool x.dir, .int .i64 (x.num : Int)] 83)).alloc (.cells #[.string x.path, .bool x.dir, .int .i64 (x.num : Int)] 83)).push x _ (heap_alloc_new _ _) hcnt
      obtain ⟨LN, hLN⟩ : ∃ LN, ((l.take j).filterMap (moved ⟨2, a, b, num⟩)).length = LN := ⟨_, rfl⟩
      have hs2 : (wr.alloc (.cells #[.string x.path, .bool x.dir, .int .i64 (x.num : Int)] 83)).heap.size = wr.heap.size + 1 := by simp
      rw [hLN, hs2] at hrun
      rw [hLN] at HU
      have HRun := Lib.hid hrun
      have HPush := Lib.hid hpush
      have HTK := Lib.hid htk
      have HIN := Lib.hid hin
      clear hs2 hrun hpush htk hin hc hx hcnt hbel hzl hwl z0 z1 z2
      have hm : moved ⟨2, a, b, num⟩ x = some x := by unfold moved; rw [if_neg (by show ¬ ((2 : Nat) = 4); decide), if_neg (by show ¬ ((2 : Nat) = 3); decide)]
      have HM := Lib.hid hm
      clear hm
      go_wp2_with (first
        | (go_at_call 62; ((with_reducible refine (HIN.out _).mono ?_); rintro r w2 ⟨rfl, rfl⟩))
        | (at_builtin; refine Row.append_by rfl (.tmp 62) (.tmp 64) _ rfl _ _ rfl rfl HRun.out ?_))
      go_roundg (N - (j + 1))
      case measure => have := hE.out; omega
      case rel =>
        exact ⟨j + 1, by show _ = _; omega, by omega, by go_num, by show Out _ _ _ _; rw [HTK.out, HM.out]; exact HPush.out⟩
    · obtain rfl : j = N := by omega
      have hbel := HU.out.below
      have hzl : w.heap.size < w1.heap.size := by omega
      have z0 : wr.cell? ⟨w.heap.size, 0, none⟩ = some (.int .i64 2) := (hbel.cell hzl).trans (by rw [cell_of_row w1 w.heap.size 0 _ _ _ hb0]; rfl)
      have hall : l.take j = l := by rw [List.take_of_length_le]; rw [HN.out]; exact Nat.le_refl _
      rw [hall] at HU
      have z1 : wr.cell? ⟨w.heap.size, 1, none⟩ = some (.string a) := (hbel.cell hzl).trans (by rw [cell_of_row w1 w.heap.size 1 _ _ _ hb0]; rfl)
      have z3 : wr.cell? ⟨w.heap.size, 3, none⟩ = some (.int .i64 (num : Int)) := (hbel.cell hzl).trans (by rw [cell_of_row w1 w.heap.size 3 _ _ _ hb0]; rfl)
      have hcnt : (l.filterMap (moved ⟨2, a, b, num⟩)).length < 1099511627776 := by
        refine Nat.lt_of_le_of_lt (List.length_filterMap_le _ _) ?_
        rw [HN.out]; omega
      obtain ⟨ua, uc, rfl⟩ := HU.out.shape
      obtain ⟨v', w', hrun, hpush⟩ := (HU.out.alloc (.cells #[.string a, .bool false, .int .i64 (num : Int)] 83)).push ⟨a, false, num⟩ _ (heap_alloc_new _ _) hcnt
      obtain ⟨LN, hLN⟩ : ∃ LN, (l.filterMap (moved ⟨2, a, b, num⟩)).length = LN := ⟨_, rfl⟩
      rw [hLN] at hrun
      rw [hLN] at HU ⊢
      have HRun := Lib.hid hrun
      have HPush := Lib.hid hpush
      clear hrun hpush hcnt
      have HB1 : Hid (Below w.heap.size w w1) := Lib.hid (by rw [← hw1]; exact below_alloc _ _)
      clear hlt hE hbel hall hzl
      go_wp2_with (at_builtin; refine Row.append_by rfl (.tmp 78) (.tmp 84) _ rfl _ _ rfl rfl HRun.out ?_)
      go_ret
      exact ⟨_, rfl, HPush.out.row, HB1.out.trans (HPush.out.below.mono HB1.out.size), fun k hk => Nat.le_trans HB1.out.size (HPush.out.fresh k hk)⟩

end Go.Proofs.YtmmlefbokplnnaaGreatDoor.Disk

namespace Go.Proofs.YtmmlefbokplnnaaGreatDoor.Disk
open Go.RowKit Go Go.Proofs.YtmmlefbokplnnaaGreatDoor.Base Go.Proofs.YtmmlefbokplnnaaGreatDoor.Map

set_option maxRecDepth 100000 in
set_option maxHeartbeats 1000000 in
theorem apply3_ref {w : World} {v : Value} {l : List Thing} (h : w.ownsRow 0 83 3 v l.length (l.flatMap thingC)) (hl : l.length < 1000000000000) (a b : ByteArray) (num : Nat) (hs : ∀ x ∈ l, x.path.size < 4611686018427387904) (ha : a.size < 4611686018427387904) (hbs : b.size < 4611686018427387904) :
    Calls Tryz.prog 52 #[v, .agg #[.int .i64 3, .string a, .string b, .int .i64 (num : Int)]] w fun r w' => ∃ v', r = .returned v' ∧ Out w (l.filterMap (moved ⟨3, a, b, num⟩)) w' v' := by
  obtain ⟨N, hN⟩ : ∃ N, l.length = N := ⟨_, rfl⟩
  rw [hN] at h hl
  obtain ⟨ao, cap, rfl, hcap, hr⟩ := row_open (f := thingC) (k := 3) (fun _ => rfl) h hN
  have HR := Lib.hid hr
  have HN := Lib.hid hN
  have HS := Lib.hid hs
  clear h hr hN hs
  go_enter Tryz.func52, Tryz.ntmps52
  go_wp2_with fail
  have hO := Out.nil (w.alloc (.cells #[.int .i64 3, .string a, .string b, .int .i64 (num : Int)] 97)) _ (Below.refl _ _)
  have HO := Lib.hid hO
  clear hO
  obtain ⟨w1, hw1⟩ : ∃ w1, w.alloc (.cells #[.int .i64 3, .string a, .string b, .int .i64 (num : Int)] 97) = w1 := ⟨_, rfl⟩
  have hb0 : w1.heap[w.heap.size]? = some (.cells #[.int .i64 3, .string a, .string b, .int .i64 (num : Int)] 97) := by rw [← hw1]; exact heap_alloc_new w _
  have hR1 : Hid (RowAt w1 ao thingC 3 l) := Lib.hid (by
    subst hw1
    exact HR.out.below (below_alloc _ _))
  have hs1 : w1.heap.size = w.heap.size + 1 := by rw [← hw1]; simp
  rw [hw1]
  go_loopg [5, 6] N (fun r u i wr => ∃ (j : Nat), Hid (j + r = N) ∧ j ≤ N ∧ i = .int .i64 (j : Int) ∧ Hid (Out w1 ((l.take j).filterMap (moved ⟨3, a, b, num⟩)) wr u))
  case atStart => exact ⟨0, Nat.zero_add _, Nat.zero_le _, rfl, by rw [List.take_zero]; rw [hw1] at HO; exact HO⟩
  case round =>
    obtain ⟨j, hE, hj, rfl, HU⟩ := hrel
    by_cases hlt : j < N
    · have hjl : j < l.length := by rw [HN.out]; exact hlt
      obtain ⟨g, rfl, hg, hc⟩ := hR1.out j hjl
      have hbel := HU.out.below
      have hzl : w.heap.size < w1.heap.size := by omega
      have c0 : wr.cell? ⟨g, j * 3, none⟩ = some (.string (l[j]'hjl).path) := (hbel.cell hg).trans (hc 0 (by omega))
      have c1 : wr.cell? ⟨g, j * 3 + 1, none⟩ = some (.bool (l[j]'hjl).dir) := (hbel.cell hg).trans (hc 1 (by omega))
      have c2 : wr.cell? ⟨g, j * 3 + 2, none⟩ = some (.int .i64 ((l[j]'hjl).num : Int)) := (hbel.cell hg).trans (hc 2 (by omega))
      have z0 : wr.cell? ⟨w.heap.size, 0, none⟩ = some (.int .i64 3) := (hbel.cell hzl).trans (by rw [cell_of_row w1 w.heap.size 0 _ _ _ hb0]; rfl)
      have z1 : wr.cell? ⟨w.heap.size, 1, none⟩ = some (.string a) := (hbel.cell hzl).trans (by rw [cell_of_row w1 w.heap.size 1 _ _ _ hb0]; rfl)
      have z2 : wr.cell? ⟨w.heap.size, 2, none⟩ = some (.string b) := (hbel.cell hzl).trans (by rw [cell_of_row w1 w.heap.size 2 _ _ _ hb0]; rfl)
      have hin := fun W => inside_ref (l[j]'hjl).path a (HS.out _ (List.getElem_mem hjl)) ha W
      have htk := applied_take (s := ⟨3, a, b, num⟩) hjl
      have hcnt : ((l.take j).filterMap (moved ⟨3, a, b, num⟩)).length < 1099511627776 := by
        refine Nat.lt_of_le_of_lt (List.length_filterMap_le _ _) ?_
        rw [List.length_take]; omega
      obtain ⟨ua, uc, rfl⟩ := HU.out.shape
      obtain ⟨x, hx⟩ : ∃ x, l[j]'hjl = x := ⟨_, rfl⟩
      rw [hx] at c0 c1 c2 hin htk
      have hwl : w.heap.size < wr.heap.size := Nat.lt_of_lt_of_le hzl hbel.size
      have y0 : (wr.alloc (.cells #[.string x.path, .bool x.dir, .int .i64 (x.num : Int)] 83)).cell? ⟨w.heap.size, 0, none⟩ = some (.int .i64 3) := ((below_alloc wr _).cell hwl).trans z0
      have y1 : (wr.alloc (.cells #[.string x.path, .bool x.dir, .int .i64 (x.num : Int)] 83)).cell? ⟨w.heap.size, 1, none⟩ = some (.string a) := ((below_alloc wr _).cell hwl).trans z1
      have y2 : (wr.alloc (.cells #[.string x.path, .bool x.dir, .int .i64 (x.num : Int)] 83)).cell? ⟨w.heap.size, 2, none⟩ = some (.string b) := ((below_alloc wr _).cell hwl).trans z2
      obtain ⟨LN, hLN⟩ : ∃ LN, ((l.take j).filterMap (moved ⟨3, a, b, num⟩)).length = LN := ⟨_, rfl⟩
      have HU0 := HU
      rw [hLN] at HU
      have hxs := HS.out _ (List.getElem_mem hjl)
      rw [hx] at hxs
      have HTK := Lib.hid htk
      have HIN := Lib.hid hin
      clear htk hin hc hx hbel hzl hwl z0 z1 z2
      by_cases hpb : x.path = b
      · have b1 := bytes_eq hpb
        have hm : moved ⟨3, a, b, num⟩ x = none := by unfold moved; rw [if_neg (by show ¬ ((3 : Nat) = 4); decide), if_pos rfl, if_pos hpb]
        have HM := Lib.hid hm
        clear hm hpb hcnt
        go_wp2_with (go_at_call 62; ((with_reducible refine (HIN.out _).mono ?_); rintro r w2 ⟨rfl, rfl⟩))
        go_roundg (N - (j + 1))
        case measure => have := hE.out; omega
        case rel =>
          exact ⟨j + 1, by show _ = _; omega, by omega, by go_num, by show Out _ _ _ _; rw [HTK.out, HM.out, List.append_nil]; exact HU.out.alloc _⟩
      · have b1 := bytes_ne hpb
        by_cases hpa : x.path = a
        · have b2 := bytes_eq hpa
          have hm : moved ⟨3, a, b, num⟩ x = some { x with path := b } := by unfold moved; rw [if_neg (by show ¬ ((3 : Nat) = 4); decide), if_pos rfl, if_neg hpb, if_pos hpa]
          have HM := Lib.hid hm
          clear hm hpb hpa
          obtain ⟨v', w', hrun, hpush⟩ := ((HU0.out.alloc (.cells #[.string b, .bool x.dir, .int .i64 (x.num : Int)] 83)).alloc (.cells #[.string b, .bool x.dir, .int .i64 (x.num : Int)] 83)).push { x with path := b } _ (heap_alloc_new _ _) hcnt
          have hs2 : (wr.alloc (.cells #[.string b, .bool x.dir, .int .i64 (x.num : Int)] 83)).heap.size = wr.heap.size + 1 := by simp
          rw [hLN, hs2] at hrun
          have HRun := Lib.hid hrun
          have HPush := Lib.hid hpush
          clear hrun hpush hcnt hs2
          go_wp2_with (first
            | (go_at_call 62; ((with_reducible refine (HIN.out _).mono ?_); rintro r w2 ⟨rfl, rfl⟩))
            | (at_builtin; refine Row.append_by rfl (.tmp 62) (.tmp 64) _ rfl _ _ rfl rfl HRun.out ?_))
          go_roundg (N - (j + 1))
          case measure => have := hE.out; omega
          case rel =>
            exact ⟨j + 1, by show _ = _; omega, by omega, by go_num, by show Out _ _ _ _; rw [HTK.out, HM.out]; exact HPush.out⟩
        · have b2 := bytes_ne hpa
          cases hi : inside x.path a
          · rw [hi] at HIN
            have hm : moved ⟨3, a, b, num⟩ x = some x := by unfold moved; rw [if_neg (by show ¬ ((3 : Nat) = 4); decide), if_pos rfl, if_neg hpb, if_neg hpa, if_neg (by rw [hi]; decide)]
            have HM := Lib.hid hm
            clear hm hpb hpa hi
            obtain ⟨v', w', hrun, hpush⟩ := ((HU0.out.alloc (.cells #[.string x.path, .bool x.dir, .int .i64 (x.num : Int)] 83)).alloc (.cells #[.string x.path, .bool x.dir, .int .i64 (x.num : Int)] 83)).push x _ (heap_alloc_new _ _) hcnt
            have hs2 : (wr.alloc (.cells #[.string x.path, .bool x.dir, .int .i64 (x.num : Int)] 83)).heap.size = wr.heap.size + 1 := by simp
            rw [hLN, hs2] at hrun
            have HRun := Lib.hid hrun
            have HPush := Lib.hid hpush
            clear hrun hpush hcnt hs2
            go_wp2_with (first
              | (go_at_call 62; ((with_reducible refine (HIN.out _).mono ?_); rintro r w2 ⟨rfl, rfl⟩))
              | (at_builtin; refine Row.append_by rfl (.tmp 62) (.tmp 64) _ rfl _ _ rfl rfl HRun.out ?_))
            go_roundg (N - (j + 1))
            case measure => have := hE.out; omega
            case rel =>
              exact ⟨j + 1, by show _ = _; omega, by omega, by go_num, by show Out _ _ _ _; rw [HTK.out, HM.out]; exact HPush.out⟩
          · rw [hi] at HIN
            have hm : moved ⟨3, a, b, num⟩ x = some { x with path := b ++ x.path.extract a.size x.path.size } := by unfold moved; rw [if_neg (by show ¬ ((3 : Nat) = 4); decide), if_pos rfl, if_neg hpb, if_neg hpa, if_pos hi]
            have HM := Lib.hid hm
            have hle : a.size ≤ x.path.size := by
              unfold inside at hi
              simp at hi
              omega
            have hcc : ¬ (((b.size + (x.path.extract a.size x.path.size).size : Nat) : Int) > IntKind.i64.max) := by
              rw [ByteArray.size_extract]; show ¬ (_ > (9223372036854775807 : Int)); omega
            clear hm hpb hpa hi
            obtain ⟨pp, hpp⟩ : ∃ pp, b ++ x.path.extract a.size x.path.size = pp := ⟨_, rfl⟩
            rw [hpp] at HM
            obtain ⟨wc, hwc⟩ : ∃ wc, wr.alloc (.cells #[.string x.path, .bool x.dir, .int .i64 (x.num : Int)] 83) = wc := ⟨_, rfl⟩
            have hcb : wc.drew.heap[wr.heap.size]? = some (.cells #[.string x.path, .bool x.dir, .int .i64 (x.num : Int)] 83) := by rw [← hwc]; exact heap_alloc_new wr _
            have hlw := (Array.getElem?_eq_some_iff.1 hcb).1
            have fz : wc.drew.frozen? ⟨wr.heap.size, 0, none⟩ = false := by simp only [World.frozen?, hcb]; rfl
            have x0 : wc.drew.cell? ⟨wr.heap.size, 0, none⟩ = some (.string x.path) := by rw [cell_of_row _ wr.heap.size 0 _ _ _ hcb]; rfl
            have u0 : wc.drew.cell? ⟨w.heap.size, 0, none⟩ = some (.int .i64 3) := by rw [← hwc]; exact y0
            have u1 : wc.drew.cell? ⟨w.heap.size, 1, none⟩ = some (.string a) := by rw [← hwc]; exact y1
            have u2 : wc.drew.cell? ⟨w.heap.size, 2, none⟩ = some (.string b) := by rw [← hwc]; exact y2
            have e0 : (wc.setCell ⟨wr.heap.size, 0, none⟩ (.string pp)).drew.cell? ⟨wr.heap.size, 0, none⟩ = some (.string pp) := by
              show (wc.drew.setCell _ _).cell? _ = _
              rw [cell_of_row _ wr.heap.size 0 _ _ _ (heap_setCell_same _ wr.heap.size 0 _ _ _ hcb)]; rfl
            have e1 : (wc.setCell ⟨wr.heap.size, 0, none⟩ (.string pp)).drew.cell? ⟨wr.heap.size, 1, none⟩ = some (.bool x.dir) := by
              show (wc.drew.setCell _ _).cell? _ = _
              rw [cell_of_row _ wr.heap.size 1 _ _ _ (heap_setCell_same _ wr.heap.size 0 _ _ _ hcb)]; rfl
            have e2 : (wc.setCell ⟨wr.heap.size, 0, none⟩ (.string pp)).drew.cell? ⟨wr.heap.size, 2, none⟩ = some (.int .i64 (x.num : Int)) := by
              show (wc.drew.setCell _ _).cell? _ = _
              rw [cell_of_row _ wr.heap.size 2 _ _ _ (heap_setCell_same _ wr.heap.size 0 _ _ _ hcb)]; rfl
            have hset : Out w1 ((l.take j).filterMap (moved ⟨3, a, b, num⟩)) (wc.setCell ⟨wr.heap.size, 0, none⟩ (.string pp)).drew (.slice ua ((l.take j).filterMap (moved ⟨3, a, b, num⟩)).length uc) := by rw [← hwc]; exact HU0.out.set _ _
            obtain ⟨v', w', hrun, hpush⟩ := (hset.alloc (.cells #[.string pp, .bool x.dir, .int .i64 (x.num : Int)] 83)).push { x with path := pp } _ (heap_alloc_new _ _) hcnt
            have hs2 : (wc.setCell ⟨wr.heap.size, 0, none⟩ (.string pp)).drew.heap.size = wc.heap.size := by show (wc.setCell ⟨wr.heap.size, 0, none⟩ (.string pp)).heap.size = _; simp [World.setCell]
            rw [hLN, hs2] at hrun
            have hrun2 : (Builtin.append_ #[39, 39] 39 #[.slice ua LN uc, .slice (some ⟨wc.heap.size, 0, none⟩) 1 1]).run Tryz.prog (((wc.setCell ⟨wr.heap.size, 0, none⟩ (.string pp)).alloc (.cells #[.string pp, .bool x.dir, .int .i64 (x.num : Int)] 83)).drew) = .ok v' w' := hrun
            have HRun := Lib.hid hrun2
            have HPush := Lib.hid hpush
            have HWC := Lib.hid hwc
            clear hrun hrun2 hs2 hpush hcnt hset hcb hwc
            go_wp2_with (go_at_call 62; ((with_reducible refine (HIN.out _).mono ?_); rintro r w2 ⟨rfl, rfl⟩))
            rw [HWC.out]
            refine wp_region_still_tail 8 (by kernel_rfl) (by kernel_rfl) ?_
            simp only [List.take_succ_cons, List.take_zero, List.drop_succ_cons, List.drop_zero]
            change wpStill _ _ wc.drew _ _ _
            repeat still_step
            refine wpStill_nil ?_
            change wpList _ _ _ _ _ wc.drew
            go_wp2_with (at_builtin; refine Row.append_by rfl (.tmp 62) (.tmp 64) _ rfl _ _ rfl rfl HRun.out ?_)
            go_roundg (N - (j + 1))
            case measure => have := hE.out; omega
            case rel =>
              exact ⟨j + 1, by show _ = _; omega, by omega, by go_num, by show Out _ _ _ _; rw [HTK.out, HM.out]; exact HPush.out⟩
    · obtain rfl : j = N := by omega
      have hbel := HU.out.below
      have hzl : w.heap.size < w1.heap.size := by omega
      have z0 : wr.cell? ⟨w.heap.size, 0, none⟩ = some (.int .i64 3) := (hbel.cell hzl).trans (by rw [cell_of_row w1 w.heap.size 0 _ _ _ hb0]; rfl)
      have hall : l.take j = l := by rw [List.take_of_length_le]; rw [HN.out]; exact Nat.le_refl _
      rw [hall] at HU
      have HB1 : Hid (Below w.heap.size w w1) := Lib.hid (by rw [← hw1]; exact below_alloc _ _)
      clear hlt hE hbel hall hzl
      go_wp2
      go_ret
      exact ⟨_, rfl, HU.out.row, HB1.out.trans (HU.out.below.mono HB1.out.size), fun k hk => Nat.le_trans HB1.out.size (HU.out.fresh k hk)⟩

end Go.Proofs.YtmmlefbokplnnaaGreatDoor.Disk

namespace Go.Proofs.YtmmlefbokplnnaaGreatDoor.Disk
open Go.RowKit Go Go.Proofs.YtmmlefbokplnnaaGreatDoor.Base Go.Proofs.YtmmlefbokplnnaaGreatDoor.Map

theorem apply_ref {w : World} {v : Value} {l : List Thing} (h : w.ownsRow 0 83 3 v l.length (l.flatMap thingC)) (hl : l.length < 1000000000000) (s : NStep) (hk : s.kind = 1 ∨ s.kind = 2 ∨ s.kind = 3 ∨ s.kind = 4) (hs : ∀ x ∈ l, x.path.size < 4611686018427387904) (ha : s.a.size < 4611686018427387904) (hb : s.b.size < 4611686018427387904) :
    Calls Tryz.prog 52 #[v, .agg #[.int .i64 (s.kind : Int), .string s.a, .string s.b, .int .i64 (s.num : Int)]] w fun r w' => ∃ v', r = .returned v' ∧ Out w (applied l s) w' v' := by
  obtain ⟨kd, a, b, num⟩ := s
  simp only at hk ha hb ⊢
  rcases hk with rfl | rfl | rfl | rfl
  · exact apply1_ref h hl a b num hs ha
  · exact apply2_ref h hl a b num hs ha
  · have e : applied l ⟨3, a, b, num⟩ = l.filterMap (moved ⟨3, a, b, num⟩) := by unfold applied born; simp
    rw [e]
    exact apply3_ref h hl a b num hs ha hb
  · have e : applied l ⟨4, a, b, num⟩ = l.filterMap (moved ⟨4, a, b, num⟩) := by unfold applied born; simp
    rw [e]
    exact apply4_ref h hl a b num hs ha

/-- all but the struct -/
structure RefParts (w : World) (q : RefG) (m : M) : Prop where
  things : w.ownsRow 0 83 3 q.tv m.things.length (m.things.flatMap thingC)
  safe : w.ownsRow 0 83 3 q.sv m.safe.length (m.safe.flatMap thingC)
  steps : w.ownsRow 0 97 4 q.nv m.steps.length (m.steps.flatMap nstepC)
  files : w.ownsRow 0 101 3 q.fv m.files.length ((m.files.zip q.cs).flatMap fbC)
  len : q.cs.length = m.files.length
  changes : ∀ i (h1 : i < m.files.length) (h2 : i < q.cs.length), w.ownsRow 0 120 3 (q.cs[i]'h2) (m.files[i]'h1).steps.length ((m.files[i]'h1).steps.flatMap changeC)
  apart : ∀ i j k (h1 : i < q.cs.length) (h2 : j < q.cs.length), (q.cs[i]'h1).ownBlock = some k → (q.cs[j]'h2).ownBlock = some k → i = j

section
variable {w w' : World} {R : Nat} {q : RefG} {m : M}

theorem RefAt.parts (h : RefAt w R q m) : RefParts w q m := ⟨h.things, h.safe, h.steps, h.files, h.len, h.changes, h.apart⟩
theorem RefParts.at (h : RefParts w q m) (hb : w.heap[R]? = some (.cells (refCells q m) 43)) : RefAt w R q m := ⟨hb, h.things, h.safe, h.steps, h.files, h.len, h.changes, h.apart⟩

theorem RefParts.turn {S : Nat → Prop} (h : RefParts w q m) (ht : Turn S w w') (h1 : ∀ k, q.tv.ownBlock = some k → ¬ S k) (h2 : ∀ k, q.sv.ownBlock = some k → ¬ S k) (h3 : ∀ k, q.nv.ownBlock = some k → ¬ S k) (h4 : ∀ k, q.fv.ownBlock = some k → ¬ S k)
    (h5 : ∀ v ∈ q.cs, ∀ k, v.ownBlock = some k → ¬ S k) : RefParts w' q m :=
  ⟨row_turn h.things ht h1, row_turn h.safe ht h2, row_turn h.steps ht h3, row_turn h.files ht h4, h.len, fun i i1 i2 => row_turn (h.changes i i1 i2) ht (h5 _ (List.getElem_mem i2)), h.apart⟩

theorem RefParts.kindC (h : RefParts w q m) : ∀ v ∈ q.cs, ∀ k, v.ownBlock = some k → isK w k 120 := by
  intro v hv k hk
  obtain ⟨i, hi, rfl⟩ := List.getElem_of_mem hv
  exact row_kind (h.changes i (by rw [← h.len]; exact hi) hi) hk

/-- a turn over blocks of one kind that none of its rows has -/
theorem RefParts.turnK {S : Nat → Prop} {e : TypeId} (h : RefParts w q m) (ht : Turn S w w') (hS : ∀ k, S k → isK w k e) (e1 : e ≠ 83) (e2 : e ≠ 97) (e3 : e ≠ 101) (e4 : e ≠ 120) : RefParts w' q m :=
  h.turn ht (fun _ hk hS' => e1 ((hS _ hS').one (row_kind h.things hk))) (fun _ hk hS' => e1 ((hS _ hS').one (row_kind h.safe hk))) (fun _ hk hS' => e2 ((hS _ hS').one (row_kind h.steps hk)))
    (fun _ hk hS' => e3 ((hS _ hS').one (row_kind h.files hk))) (fun v hv k hk hS' => e4 ((hS _ hS').one (h.kindC v hv k hk)))

/-- a word of the struct is stored -/
theorem RefAt.put {c : Array Value} (hb : w.heap[R]? = some (.cells c 43)) (hp : RefParts w q m) (i : Nat) (v : Value) (hc : refCells q m = c.setIfInBounds i v) : RefAt (w.setCell ⟨R, i, none⟩ v) R q m := by
  have ht : Turn (fun k => k = R) w (w.setCell ⟨R, i, none⟩ v) := (Turn.refl _ w).set _ _ (fun _ => rfl)
  refine (hp.turnK (e := 43) ht (fun k hk => by subst hk; exact ⟨_, _, hb⟩) (by decide) (by decide) (by decide) (by decide)).at ?_
  rw [heap_setCell_same w R i c _ v hb, hc]

theorem RefParts.below (h : RefParts w q m) (hb : Below w.heap.size w w') : RefParts w' q m :=
  h.turn (S := fun _ => False) (Turn.of_below hb) (fun _ _ => id) (fun _ _ => id) (fun _ _ => id) (fun _ _ => id) (fun _ _ _ _ => id)

theorem RefParts.newThings {v : Value} {l : List Thing} (h : RefParts w q m) (hr : w.ownsRow 0 83 3 v l.length (l.flatMap thingC)) : RefParts w { q with tv := v } { m with things := l } :=
  ⟨hr, h.safe, h.steps, h.files, h.len, h.changes, h.apart⟩

theorem RefParts.newSteps {v : Value} {l : List NStep} (h : RefParts w q m) (hg : w.grownBy w' q.nv.ownBlock) (hr : w'.ownsRow 0 97 4 v l.length (l.flatMap nstepC)) : RefParts w' { q with nv := v } { m with steps := l } := by
  have ht : Turn (fun k => q.nv.ownBlock = some k) w w' := Turn.of_grown hg fun k hk => hk
  have kk : ∀ k, q.nv.ownBlock = some k → isK w k 97 := fun k hk => row_kind h.steps hk
  exact ⟨row_turn h.things ht fun k hk hS => (row_kind h.things hk).ne (kk k hS) (by decide) rfl, row_turn h.safe ht fun k hk hS => (row_kind h.safe hk).ne (kk k hS) (by decide) rfl, hr,
    row_turn h.files ht fun k hk hS => (row_kind h.files hk).ne (kk k hS) (by decide) rfl, h.len,
    fun i i1 i2 => row_turn (h.changes i i1 i2) ht fun k hk hS => (row_kind (h.changes i i1 i2) hk).ne (kk k hS) (by decide) rfl, h.apart⟩

theorem nstep_info : (Tryz.prog.info? 97).map (fun i => (i.zero, i.size, i.bytes)) = some (some (.agg #[.int .i64 0, .string ⟨#[]⟩, .string ⟨#[]⟩, .int .i64 0]), 4, 48) := by kernel_rfl

theorem nstep_push (w : World) (v : Value) (n : Nat) (l : List NStep) (s : NStep) (hown : w.ownsRow 0 97 4 v n (l.flatMap nstepC)) (b : Nat) (hb : w.heap[b]? = some (.cells #[.int .i64 (s.kind : Int), .string s.a, .string s.b, .int .i64 (s.num : Int)] 97)) (hl : n < 1099511627776) :
    ∃ v' w', (Builtin.append_ #[40, 40] 40 #[v, .slice (some ⟨b, 0, none⟩) 1 1]).run Tryz.prog w = .ok v' w' ∧ w'.ownsRow 0 97 4 v' (n + 1) ((l ++ [s]).flatMap nstepC) ∧ w.grownBy w' v.ownBlock ∧ (v'.ownBlock = v.ownBlock ∨ v'.ownBlock = some w.heap.size) := by
  rw [List.flatMap_append, show [s].flatMap nstepC = nstepC s from by simp]
  exact row_push Tryz.underlying40 nstep_info rfl (by decide) (by decide) w v n _ hown (nstepC s) rfl (by intro u hu; simp [nstepC] at hu; rcases hu with rfl | rfl | rfl | rfl <;> rfl) b hb hl

end
end Go.Proofs.YtmmlefbokplnnaaGreatDoor.Disk

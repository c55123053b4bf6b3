/-
  The closed law's helper wakes. Own text.
-/
import Derived.Test.YtanbmlikfhcpoaaDoorDWakeR
namespace Go.Proofs.YtanbmlikfhcpoaaDoor.Disk
open Go.RowKit Go Go.Proofs.YtanbmlikfhcpoaaDoor.Base Go.Proofs.YtanbmlikfhcpoaaDoor.Map

theorem txt6 : strN p6.bytes = ⟨#[120, 121, 122, 117, 0]⟩ := by decide

theorem own_new {w w' : World} (hd : DiskAt w' w.heap.size (newG 9)) (hb : Below w.heap.size w w') : Own w w' w.heap.size (newG 9) :=
  ⟨hd, hb, fun k hk => by
    rcases hk with hk | hk | hk | hk | ⟨x, hx, _⟩ | ⟨i, hi, _⟩
    · omega
    · simp [newG, TreeG.blocks] at hk
    · simp [newG, TreeG.blocks] at hk
    · cases hk
    · cases hx
    · cases hi⟩

theorem wk_parts {w0 w : World} {D : Nat} {G : DiskG} {E : Nat → Addr} {p : PF} {u : Nat} (he : Env w0 E) (h : Own w0 w D G) (hs : St G p u) (hl : p.bytes.length < 1000 ∧ p.steps = []) (l : List ByteArray) (T : List Nat) (hll : l.length < 10) (hT : u + T.length ≤ 9)
    (hc : cat (fun j => l.getD j ByteArray.empty) l.length = T) :
    Calls Tryd.prog 8 #[.pointer (some ⟨D, 0, none⟩), .string aN, .slice (some ⟨w.heap.size, 0, none⟩) l.length l.length] (w.alloc (.cells (l.map Value.string).toArray 9)) fun r w' => r = .returned .nilIface ∧ ∃ G', Own w0 w' D G' ∧ St G' (p.add T) (u + T.length) := by
  have hb : Below w.heap.size w (w.alloc (.cells (l.map Value.string).toArray 9)) := below_alloc _ _
  have := wk_append he (h.below_trans hb) hs hl (some ⟨w.heap.size, 0, none⟩) l.length l.length (fun j => l.getD j ByteArray.empty) (fun j hj => ⟨w.heap.size, 0, rfl, by simp, by
    rw [cell_of_row _ w.heap.size _ _ _ _ (heap_alloc_new w _)]
    simp [hj]⟩) (fun b off e hk => by
      injection e with e
      injection e with e
      subst e
      have := Parts.own_lt h.disk _ hk
      omega) hll (by rw [hc]; exact hT)
  rw [hc] at this
  exact this

set_option maxRecDepth 100000 in
set_option maxHeartbeats 4000000 in
theorem wakes_any (w : World) (E : Nat → Addr) (he : Env w E) (h8 : 8 ≤ w.heap.size) : Calls Tryd.prog 4 #[] w fun e w' => e = .returned (.bool true) ∧ Below w.heap.size w w' := by
  have hnew := new_any 9 w
  have HE := Lib.hid he
  have H8 := Lib.hid h8
  clear he h8
  go_enter Tryd.func4, Tryd.ntmps4
  go_wp2_with (first
    | (go_at_call 5; refine hnew.mono ?_; rintro r w1 ⟨rfl, hd1, hb1⟩; have O1 := Lib.hid (own_new hd1 hb1); clear hd1 hb1)
    | (go_at_call 7; ((with_reducible refine (wk_create HE.out H8.out O1.out).mono ?_); rintro r w2 ⟨rfl, G2, hO2, hG2⟩; have O2 := Lib.hid hO2; have K2 := Lib.hid hG2; clear hO2 hG2))
    | (go_at_call 10; (obtain ⟨k1, k2, k3, k4, k5, k6, k7, k8⟩ := K2.out; (with_reducible refine (wk_names HE.out H8.out O2.out k1 k2 k3 k4 k5 k6 k7 k8).mono ?_); rintro r w3 ⟨rfl, G3, hO3, hG3⟩; have O3 := Lib.hid hO3; have K3 := Lib.hid hG3; clear hO3 hG3 k1 k2 k3 k4 k5 k6 k7 k8; have A4 := Lib.hid (wk_parts HE.out O3.out K3.out ⟨by decide, rfl⟩ [⟨#[120, 121, 122]⟩] [120, 121, 122] (by decide) (by decide) rfl)))
    | (go_at_call 8; (refine A4.out.mono ?_; rintro r w4 ⟨rfl, G4, hO4, hG4⟩; have O4 := Lib.hid hO4; have K4 := Lib.hid hG4; clear hO4 hG4 A4))
    | (go_at_call 9; ((with_reducible refine (wk_sync HE.out O4.out K4.out).mono ?_); rintro r w5 ⟨rfl, G5, hO5, hG5⟩; have O5 := Lib.hid hO5; have A6 := Lib.hid (wk_parts HE.out hO5 hG5 ⟨by decide, rfl⟩ [⟨#[117]⟩, ⟨#[118]⟩] [117, 118] (by decide) (by decide) rfl); clear hO5 hG5))
    | (go_at_call 8; (refine A6.out.mono ?_; rintro r w6 ⟨rfl, G6, hO6, hG6⟩; have O6 := Lib.hid hO6; have K6 : Hid (St G6 p5 5) := hG6; have A7 := Lib.hid (wk_restart HE.out H8.out (hO6.below_trans (below_alloc _ (.cells #[.int .i64 1] 3))) hG6 (.slice (some ⟨w6.heap.size, 0, none⟩) 1 1) (World.ownsRow_lit w6 #[.int .i64 1] 1 (Nat.zero_le _) (by decide) rfl)); clear hO6 hG6 A6))
    | (go_at_call 11; ((with_reducible refine A7.out.mono ?_); rintro r w7 ⟨rfl, G7, hO7, hG7⟩; have O7 := Lib.hid hO7; have K7 := Lib.hid hG7; clear hO7 hG7))
    | (go_at_call 12; (have A8 := wk_all HE.out O7.out K7.out; rw [txt6] at A8; (with_reducible refine A8.mono ?_); clear A8; rintro r w8 ⟨rfl, hO8⟩; have O8 := Lib.hid hO8; have U8 := used_any hO8.disk; rw [K7.out.off, K7.out.used] at U8; clear hO8))
    | (go_at_call 15; (refine U8.mono ?_; rintro r w9 ⟨rfl, rfl⟩)))
  all_goals
    go_ret
    exact ⟨rfl, O8.out.below⟩

end Go.Proofs.YtanbmlikfhcpoaaDoor.Disk

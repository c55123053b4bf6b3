/-
  The laws' helpers: contracts of twin, ref, alike. Own text.
-/
import Derived.Test.YtcpkogboaniehaaLWakes
import Derived.Test.YtcpkogboaniehaaLRefC
namespace Go.Proofs.Ytcpkogboaniehaa.Lab
open Go.RowKit Go Go.Proofs.Ytcpkogboaniehaa.Base Go.Shelf Go.Sort

/-- labels in a row of the call's own -/
structure LabRow (t : TypeId) (w wr : World) (v : Value) (l : List Lab) : Prop where
  below : Below w.heap.size w wr
  row : wr.ownsRow 0 t 2 v l.length (cellsL l)
  new : ∀ k, v.ownBlock = some k → w.heap.size ≤ k

theorem LabRow.nil (t : TypeId) (w : World) : LabRow t w w (.slice none 0 0) [] := ⟨Below.refl _ _, World.ownsRow_nil _ _ _ _, fun k hk => by cases hk⟩
theorem LabRow.labs {t : TypeId} {w wr : World} {v : Value} {l : List Lab} (h : LabRow t w wr v l) : ∃ ao cap, v = .slice ao l.length cap ∧ l.length ≤ cap ∧ LabsAt wr ao l := by
  obtain ⟨ao, cap, h1, h2, _, h3, _⟩ := labs_of_row h.row
  exact ⟨ao, cap, h1, h2, h3⟩
theorem LabRow.kept {t : TypeId} {w wr w2 : World} {v : Value} {l : List Lab} (h : LabRow t w wr v l) (hb : Below wr.heap.size wr w2) : LabRow t w w2 v l := by
  refine ⟨le_below h.below hb, ⟨h.row.1, ?_⟩, h.new⟩
  rcases h.row.2 with h0 | ⟨g, cap, cur, h1, h2, h3, h4⟩
  · exact .inl h0
  · exact .inr ⟨g, cap, cur, h1, h2, by rw [hb.block g (Array.getElem?_eq_some_iff.1 h3).1]; exact h3, h4⟩

theorem lab_info : (Try.prog.info? 69).map (fun i => (i.zero, i.size, i.bytes)) = some (some (.agg #[.string ⟨#[]⟩, .string ⟨#[]⟩]), 2, 32) := by kernel_rfl
theorem ref_info : (Try.prog.info? 70).map (fun i => (i.zero, i.size, i.bytes)) = some (some (.agg #[.string ⟨#[]⟩, .string ⟨#[]⟩]), 2, 32) := by kernel_rfl
theorem info_parts2 {P : Program} {t : TypeId} {z : Value} {s b : Nat} (h : (P.info? t).map (fun i => (i.zero, i.size, i.bytes)) = some (some z, s, b)) : ∃ i, P.info? t = some i ∧ i.zero = some z ∧ i.size = s ∧ i.bytes = b := by
  cases hh : P.info? t with
  | none => rw [hh] at h; cases h
  | some i =>
    rw [hh, Option.map_some] at h
    injection h with h
    injection h with h1 h2
    injection h2 with h2 h3
    exact ⟨i, rfl, h1, h2, h3⟩

/-- labels appended to a row of one's own; they may lie anywhere -/
theorem LabRow.append {ts t : TypeId} (hu : Try.prog.underlying ts = some (.slice t)) (hi : (Try.prog.info? t).map (fun i => (i.zero, i.size, i.bytes)) = some (some (.agg #[.string ⟨#[]⟩, .string ⟨#[]⟩]), 2, 32))
    {w wr W : World} {v : Value} {l : List Lab} (h : LabRow t w wr v l) (hW : Below wr.heap.size wr W) (x : Value) (m : List Lab) (hsrc : Src Try.prog 2 ts x m.length (cellsL m) W) (hl : (l.length + m.length) * 32 ≤ 140737488355328) :
    ∃ ao cap w', (Builtin.append_ #[ts, ts] ts #[v, x]).run Try.prog W = .ok (.slice ao (l.length + m.length) cap) w' ∧ LabRow t w w' (.slice ao (l.length + m.length) cap) (l ++ m) := by
  obtain ⟨i0, hi, hz0, hz1, hz2⟩ := info_parts2 hi
  have hk := h.kept hW
  obtain ⟨v', w', h1, h2, h3, h4⟩ := Row.append_src (P := Try.prog) W ts ts ts t i0 _ 2 32 hu hi hz0 hz1 hz2 rfl (by decide) v l.length _ hk.row _ m.length _ hsrc (by unfold maxLen; omega) hl
  have hb : Below w.heap.size w w' := hk.below.grown h3 hk.below.size h.new
  have hnew : ∀ k, v'.ownBlock = some k → w.heap.size ≤ k := fun k hk2 => by
    rcases h4 with e | e
    · exact h.new k (by rw [← e]; exact hk2)
    · rw [hk2] at e
      injection e with e
      have := hk.below.size
      omega
  rw [← cellsL_append] at h2
  have h2' : w'.ownsRow 0 t 2 v' (l ++ m).length (cellsL (l ++ m)) := by rw [List.length_append]; exact h2
  rcases h2'.2 with ⟨e, h0⟩ | ⟨g, cap, cur, e, h5⟩
  · have hz : l.length + m.length = 0 := by rw [List.length_append] at h0; exact h0
    subst e
    exact ⟨none, 0, w', by rw [hz]; exact h1, hb, by rw [hz]; exact h2', by rw [hz]; exact hnew⟩
  · rw [List.length_append] at e
    subst e
    exact ⟨_, cap, w', h1, hb, h2', hnew⟩

set_option maxRecDepth 100000 in
theorem src_labs {ts t : TypeId} (hu : Try.prog.underlying ts = some (.slice t)) {w : World} {ao : Option Addr} {cap : Nat} {l : List Lab} (hL : LabsAt w ao l) : Src Try.prog 2 ts (.slice ao l.length cap) l.length (cellsL l) w ∨ (l = [] ∧ ∃ a, ao = some a) := by
  by_cases h0 : l.length = 0
  · obtain rfl : l = [] := List.eq_nil_of_length_eq_zero h0
    cases ao with
    | none => exact .inl (Src.ofNil w hu cap)
    | some a => exact .inl (Src.ofSlice w hu a 0 cap [] rfl (fun j u hj => by cases hj) (fun u hu => by cases hu))
  · obtain ⟨b, off, rfl, hb, _, _⟩ := hL 0 (by omega)
    refine .inl (Src.ofSlice w hu _ l.length cap _ (cellsL_length l) ?_ (cellsL_one l))
    intro j u hj
    have hjl : j < l.length * 2 := by
      rcases Nat.lt_or_ge j (l.length * 2) with h | h
      · exact h
      · rw [List.getElem?_eq_none (by rw [cellsL_length]; omega)] at hj; cases hj
    obtain ⟨b', off', e, _, p0, p1⟩ := hL (j / 2) (by omega)
    injection e with e
    injection e with e1 e2
    subst e1 e2
    have ha := cellsL_at l (j / 2) (by omega)
    rw [Go.WideShapes.add_plain]
    rcases Nat.mod_two_eq_zero_or_one j with e | e
    · rw [show j / 2 * 2 = j by omega] at ha p0
      rw [ha.1] at hj
      rw [p0, hj]
    · rw [Nat.add_assoc, show j / 2 * 2 + 1 = j by omega] at p1
      rw [show j / 2 * 2 + 1 = j by omega] at ha
      rw [ha.2] at hj
      rw [p1, hj]

set_option maxRecDepth 100000 in
set_option maxHeartbeats 1000000 in
theorem ref_any (ao : Option Addr) (cap : Nat) (l : List Lab) (w : World) (hl : l.length * 32 ≤ 140737488355328) (hL : LabsAt w ao l) :
    Calls Try.prog 16 #[.slice ao l.length cap] w fun e w' => ∃ ao' cap', e = .returned (.slice ao' l.length cap') ∧ LabRow 70 w w' (.slice ao' l.length cap') l := by
  have HL := Lib.hid hL
  have HN := Lib.hid hl
  clear hL hl
  go_enter Try.func16, Try.ntmps16
  go_wp2_with fail
  go_loopg [3, 8] l.length (fun r q i wr => ∃ (k : Nat) (ao : Option Addr) (n cap : Nat), Hid (k + r = l.length) ∧ k ≤ l.length ∧ i = .int .i64 (k : Int) ∧ q = .slice ao n cap ∧ Hid (n = k) ∧ Hid (LabRow 70 w wr q (l.take k)))
  case atStart => exact ⟨0, none, 0, 0, Nat.zero_add _, Nat.zero_le _, rfl, rfl, rfl, LabRow.nil _ w⟩
  case round =>
    obtain ⟨k, ao2, n, cap2, hE, hk, rfl, rfl, HNK, HS⟩ := hrel
    have hk2 : l.length < 4611686018427387904 := by have := HN.out; omega
    by_cases hlt : k < l.length
    · have hLk := HL.out.below HS.out.below (Nat.le_refl _)
      obtain ⟨b, off, rfl, hb, q0, q1⟩ := hLk k hlt
      have htn := take_nth l k hlt
      obtain ⟨x, hx⟩ : ∃ x, x = l[k]! := ⟨_, rfl⟩
      rw [← hx] at q0 q1 htn
      obtain ⟨xn, xv⟩ := x
      simp only at q0 q1
      have hS := HS.out
      have hwa : Below wr.heap.size wr ((wr.alloc (.cells #[.string xn, .string xv] 69)).alloc (.cells #[.string xn, .string xv] 70)) := le_below (below_alloc _ _) (below_alloc _ _)
      have hsrc : Src Try.prog 2 39 (.slice (some ⟨wr.heap.size + 1, 0, none⟩) 1 1) 1 (cellsL [⟨xn, xv⟩]) ((wr.alloc (.cells #[.string xn, .string xv] 69)).alloc (.cells #[.string xn, .string xv] 70)) := by
        refine Src.ofSlice _ Try.underlying39 _ 1 1 _ rfl ?_ (cellsL_one _)
        intro j u hu
        rw [Go.WideShapes.add_plain, Nat.zero_add]
        exact cell_new (by rw [World.size_alloc]) (by simpa [cellsL, Lab.cells] using hu)
      have hlen : (l.take k).length = n := by rw [List.length_take, HNK.out]; omega
      obtain ⟨ao', cap', w1, hrun, hR⟩ := LabRow.append Try.underlying39 ref_info hS hwa _ [⟨xn, xv⟩] hsrc (by rw [hlen, HNK.out]; have := HN.out; simp only [List.length_cons, List.length_nil]; omega)
      rw [hlen, ← htn] at hR
      rw [hlen] at hrun
      have HRun := Lib.hid hrun
      have HR := Lib.hid hR
      clear hx hLk htn hS hwa hsrc hlen hrun hR
      go_wp2_with (at_builtin; refine Row.append_by rfl (.tmp 12) (.tmp 18) _ rfl _ _ rfl rfl HRun.out ?_)
      go_roundg (l.length - (k + 1))
      case measure => have := hE.out; omega
      case rel => exact ⟨k + 1, ao', n + 1, cap', by show _ = _; omega, by omega, by go_num, rfl, by show _ = _; have := HNK.out; omega, HR.out⟩
    · obtain rfl : k = l.length := by omega
      have hS := HS.out
      rw [List.take_length] at hS
      obtain rfl : n = l.length := HNK.out
      have HS2 := Lib.hid hS
      clear hS
      go_wp2_with fail
      go_ret
      exact ⟨_, _, rfl, HS2.out⟩
end Go.Proofs.Ytcpkogboaniehaa.Lab

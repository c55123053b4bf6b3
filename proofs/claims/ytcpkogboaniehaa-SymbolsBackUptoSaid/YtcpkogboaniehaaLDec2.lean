/-
  A set out of its bytes: contracts of Decode, of the program and of the document's answer. Own text.
-/
import Derived.Test.YtcpkogboaniehaaLDec
namespace Go.Proofs.Ytcpkogboaniehaa.Enc
open Go.RowKit Go Go.Proofs.Ytcpkogboaniehaa.Base

theorem rdV_lt (s : ByteArray) (a : Int) : rdV s a < 18446744073709551616 := by
  by_cases h : a < 0 ∨ (s.size : Int) ≤ a
  · rw [rdV_err s a (by rw [rdE_out s a h]; decide)]
    decide
  · obtain ⟨b, rfl⟩ := Int.eq_ofNat_of_zero_le (show 0 ≤ a by omega)
    have hb : b < s.size := by omega
    obtain ⟨h1, h2, h3⟩ := kk_spec s b hb
    have hR := reads_of s b hb
    generalize kk s b = k at *
    generalize rdV s b = v at *
    generalize rdN s b = n at *
    generalize rdE s b = e at *
    cases hR with
    | short h => decide
    | bad _ _ => decide
    | good c1 c2 c3 c4 => exact Var.val_64 _ _ _ (by omega)

end Go.Proofs.Ytcpkogboaniehaa.Enc
namespace Go.Proofs.Ytcpkogboaniehaa.Lab
open Go.RowKit Go Go.Proofs.Ytcpkogboaniehaa.Base Go.Shelf Go.Sort Go.Proofs.Ytcpkogboaniehaa.Enc

theorem rcV_le (s : ByteArray) (a : Int) : rcV s a ≤ 8 := by
  by_cases h : rcE s a = 0
  · have e : rcV s a = rdV s a := by unfold rcV; rw [if_pos h]
    rw [e]
    by_cases h0 : rdE s a = 0
    · rw [(by unfold rcE; rw [if_neg (fun h => h h0)] : rcE s a = cntE (rdV s a))] at h
      by_cases h8 : 8 < rdV s a
      · rw [(by unfold cntE; rw [if_neg (by omega), if_pos h8] : cntE (rdV s a) = 44)] at h
        cases h
      · omega
    · rw [rdV_err s a h0]; omega
  · rw [(by unfold rcV; rw [if_neg h] : rcV s a = 0)]; omega

theorem LabRow.made (w : World) (n : Nat) (hn : n ≤ 1024) :
    ∃ w', (Instr.makeSlice 38 (.int .i64 0) (.int .u64 (n : Int))).run Try.prog w = .ok (.slice (some ⟨w.heap.size, 0, none⟩) 0 n) w' ∧ LabRow 69 w w' (.slice (some ⟨w.heap.size, 0, none⟩) 0 n) [] := by
  obtain ⟨i0, hi, hz0, hz1, hz2⟩ := info_parts2 lab_info
  obtain ⟨w', h1, h2, h3⟩ := run_make_own (P := Try.prog) w 0 38 69 i0 _ 2 Try.underlying38 hi hz0 hz1 .i64 .u64 n (by rw [hz2]; omega) (by unfold maxLen; omega) (Nat.zero_le _)
  exact ⟨w', h1, (Below.refl _ _).grown h3 (Nat.le_refl _) (fun k hk => by cases hk), h2, fun k hk => by (simp only [Value.ownBlock, Option.some.injEq] at hk; omega)⟩

/-- labels appended to a row of one's own; they may lie anywhere -/
theorem LabRow.append2 {ts t : TypeId} (hu : Try.prog.underlying ts = some (.slice t)) (hi : (Try.prog.info? t).map (fun i => (i.zero, i.size, i.bytes)) = some (some (.agg #[.string ⟨#[]⟩, .string ⟨#[]⟩]), 2, 32))
    {w wr W : World} {v : Value} {l : List Lab} (h : LabRow t w wr v l) (hW : Below wr.heap.size wr W) (x : Value) (m : List Lab) (hsrc : Src Try.prog 2 ts x m.length (cellsL m) W) (hl : (l.length + m.length) * 32 ≤ 140737488355328) :
    ∃ ao cap w', (Builtin.append_ #[ts, ts] ts #[v, x]).run Try.prog W = .ok (.slice ao (l.length + m.length) cap) w' ∧ LabRow t w w' (.slice ao (l.length + m.length) cap) (l ++ m) ∧ W.grownBy w' v.ownBlock := by
  obtain ⟨i0, hi, hz0, hz1, hz2⟩ := info_parts2 hi
  have hk := h.kept hW
  obtain ⟨v', w', h1, h2, h3, h4⟩ := Row.append_src (P := Try.prog) W ts ts ts t i0 _ 2 32 hu hi hz0 hz1 hz2 rfl (by decide) v l.length _ hk.row _ m.length _ hsrc (by unfold maxLen; omega) hl
  have hb : Below w.heap.size w w' := hk.below.grown h3 hk.below.size h.new
  have hnew : ∀ k, v'.ownBlock = some k → w.heap.size ≤ k := fun k hk2 => by
    rcases h4 with e | e
    · exact h.new k (by rw [← e]; exact hk2)
    · rw [hk2] at e
      injection e with e
      have := hk.below.size
      omega
  rw [← cellsL_append] at h2
  have h2' : w'.ownsRow 0 t 2 v' (l ++ m).length (cellsL (l ++ m)) := by rw [List.length_append]; exact h2
  rcases h2'.2 with ⟨e, h0⟩ | ⟨g, cap, cur, e, h5⟩
  · have hz : l.length + m.length = 0 := by rw [List.length_append] at h0; exact h0
    subst e
    exact ⟨none, 0, w', by rw [hz]; exact h1, ⟨hb, by rw [hz]; exact h2', by rw [hz]; exact hnew⟩, h3⟩
  · rw [List.length_append] at e
    subst e
    exact ⟨_, cap, w', h1, ⟨hb, h2', hnew⟩, h3⟩

theorem dec_lb {s : ByteArray} {c a : Nat} {p : ByteArray} {acc : List Lab} (h : lbE s (a : Int) ≠ 0) : decAux s (c + 1) a p acc = ([], 0, lbE s (a : Int)) := by
  rw [decAux, if_pos h]
theorem dec_tw {s : ByteArray} {c a : Nat} {p : ByteArray} {acc : List Lab} (h : lbE s (a : Int) = 0) (h2 : ¬ cmpS p (lbX s (a : Int)).n < 0) : decAux s (c + 1) a p acc = ([], 0, 42) := by
  rw [decAux, if_neg (by omega), if_pos h2]
theorem dec_go {s : ByteArray} {c a : Nat} {p : ByteArray} {acc : List Lab} (h : lbE s (a : Int) = 0) (h2 : cmpS p (lbX s (a : Int)).n < 0) : decAux s (c + 1) a p acc = decAux s c (lbN s (a : Int)) (lbX s (a : Int)).n (acc ++ [lbX s (a : Int)]) := by
  rw [decAux, if_neg (by omega), if_neg (by omega)]

end Go.Proofs.Ytcpkogboaniehaa.Lab

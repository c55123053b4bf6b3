/-
  Make, Valid: contracts. Own text.
-/
import Derived.Test.YtcpkogboaniehaaLRow
namespace Go.Proofs.Ytcpkogboaniehaa.Lab
open Go.RowKit Go Go.Proofs.Ytcpkogboaniehaa.Base Go.Shelf Go.Sort

/-- the first error by which a list is no set -/
def setE (l : List Lab) : Nat := if chk l ≠ 0 then chk l else if srtB l = true then 0 else 42
def validB (l : List Lab) : Bool := decide (setE l = 0)

set_option maxRecDepth 100000 in
set_option maxHeartbeats 1000000 in
theorem checkSet_any (ao : Option Addr) (cap : Nat) (l : List Lab) (w : World) (hl : l.length < 4611686018427387904) (hcap : l.length ≤ cap) (hL : LabsAt w ao l) :
    Calls Try.prog 46 #[.slice ao l.length cap] w fun e w' => e = .returned (.int .i64 (setE l : Int)) ∧ Below w.heap.size w w' := by
  have hc := check_any ao cap l w hl hcap hL
  have hs := fun (W : World) (hb : Below w.heap.size w W) => isSorted_any ao cap l W hl (hL.below hb (Nat.le_refl _))
  unfold setE
  by_cases h0 : chk l = 0
  · rw [if_neg (by omega)]
    rw [h0] at hc
    cases hb : srtB l
    · rw [hb] at hs
      rw [if_neg (by decide)]
      have HC := Lib.hid hc
      have HS := Lib.hid hs
      clear hc hs hL hb h0 hl hcap
      go_enter Try.func46, Try.ntmps46
      go_wp2_with (first | (go_at_call 63; refine HC.out.mono ?_; rintro e w1 ⟨rfl, hb1⟩) | (go_at_call 64; refine (HS.out _ hb1).mono ?_; rintro e w2 ⟨rfl, hb2⟩))
      go_ret
      exact ⟨rfl, le_below hb1 hb2⟩
    · rw [hb] at hs
      rw [if_pos rfl]
      have HC := Lib.hid hc
      have HS := Lib.hid hs
      clear hc hs hL hb h0 hl hcap
      go_enter Try.func46, Try.ntmps46
      go_wp2_with (first | (go_at_call 63; refine HC.out.mono ?_; rintro e w1 ⟨rfl, hb1⟩) | (go_at_call 64; refine (HS.out _ hb1).mono ?_; rintro e w2 ⟨rfl, hb2⟩))
      go_ret
      exact ⟨rfl, le_below hb1 hb2⟩
  · rw [if_pos h0]
    have e1 : ((chk l : Int) != 0) = true := by rw [bne_iff_ne]; omega
    generalize chk l = R at *
    have HC := Lib.hid hc
    clear hc hs hL h0 hl hcap
    go_enter Try.func46, Try.ntmps46
    go_wp2_with (go_at_call 63; refine HC.out.mono ?_; rintro e w1 ⟨rfl, hb1⟩)
    go_ret
    exact ⟨rfl, hb1⟩

theorem valid_any (ao : Option Addr) (cap : Nat) (l : List Lab) (w : World) (hl : l.length < 4611686018427387904) (hcap : l.length ≤ cap) (hL : LabsAt w ao l) :
    Calls Try.prog 24 #[.slice ao l.length cap] w fun e w' => e = .returned (.bool (validB l)) ∧ Below w.heap.size w w' := by
  have hc := checkSet_any ao cap l w hl hcap hL
  obtain ⟨R, hR⟩ : ∃ R, validB l = R := ⟨_, rfl⟩
  rw [hR]
  have hR2 : ((setE l : Int) == 0) = R := by
    rw [← hR]
    unfold validB
    by_cases h : setE l = 0
    · rw [h]; rfl
    · rw [decide_eq_false h, beq_eq_false_iff_ne]; omega
  generalize setE l = E at *
  have HC := Lib.hid hc
  have HR := Lib.hid hR2
  clear hc hL hR hR2 hl hcap
  go_enter Try.func24, Try.ntmps24
  go_wp2_with (go_at_call 46; refine HC.out.mono ?_; rintro e w1 ⟨rfl, hb1⟩)
  go_ret
  exact ⟨by first | rfl | exact ret_bool HR.out, hb1⟩

theorem chk_zero_len {l : List Lab} (h : chk l = 0) : 1 ≤ l.length ∧ l.length ≤ 8 := by
  by_cases h0 : l.length = 0
  · rw [chk, (by unfold cntE; rw [if_pos h0] : cntE l.length = 43)] at h
    simp at h
  · by_cases h8 : 8 < l.length
    · rw [chk, (by unfold cntE; rw [if_neg h0, if_pos h8] : cntE l.length = 44)] at h
      simp at h
    · omega

theorem own_low {w : World} {B B' n k : Nat} {t : TypeId} {v : Value} {xs : List Value} (h : w.ownsRow B t k v n xs) (hB : B' ≤ B) : w.ownsRow B' t k v n xs := by
  refine ⟨h.1, ?_⟩
  rcases h.2 with h0 | ⟨g, cap, cur, h1, h2, h3⟩
  · exact .inl h0
  · exact .inr ⟨g, cap, cur, h1, by omega, h3⟩
theorem own_new {w : World} {B n k : Nat} {t : TypeId} {v : Value} {xs : List Value} (h : w.ownsRow B t k v n xs) : ∀ b, v.ownBlock = some b → B ≤ b := fun b hb => by
  rcases h.2 with ⟨rfl, _⟩ | ⟨g, cap, cur, rfl, h2, h3⟩
  · cases hb
  · simp only [Value.ownBlock, Option.some.injEq] at hb; omega

set_option maxRecDepth 100000 in
set_option maxHeartbeats 1000000 in
theorem clone_any (ao : Option Addr) (cap : Nat) (l : List Lab) (w : World) (h1 : 1 ≤ l.length) (h8 : l.length ≤ 8) (hL : LabsAt w ao l) :
    Calls Try.prog 72 #[.slice ao l.length cap] w fun e w' => ∃ v, e = .returned v ∧ w'.ownsRow w.heap.size 69 2 v l.length (cellsL l) ∧ Below w.heap.size w w' := by
  obtain ⟨b, off, rfl, hb, _, _⟩ := hL 0 (by omega)
  have hcl := cellsL_length l
  have hat := cellsL_at l
  have hinfo : (Try.prog.info? 69).map (fun i => (i.zero, i.size, i.bytes)) = some (some (.agg #[.string ⟨#[]⟩, .string ⟨#[]⟩]), 2, 32) := by kernel_rfl
  obtain ⟨i0, hi, hz0, hz1, hz2⟩ : ∃ i, Try.prog.info? 69 = some i ∧ i.zero = some (.agg #[.string ⟨#[]⟩, .string ⟨#[]⟩]) ∧ i.size = 2 ∧ i.bytes = 32 := by
    cases hh : Try.prog.info? 69 with
    | none => rw [hh] at hinfo; cases hinfo
    | some i =>
      rw [hh, Option.map_some] at hinfo
      injection hinfo with hinfo
      injection hinfo with h1 h2
      injection h2 with h2 h3
      exact ⟨i, rfl, h1, h2, h3⟩
  have hc := AnyE.slices_Clone Try.lClone i0 _ 2 32 hi hz0 hz1 hz2 rfl (by decide) Try.sizeOf69 b off l.length cap (cellsL l) w hcl (by unfold maxLen; omega) (by omega) (fun j u hj => by
    have hjl : j < l.length * 2 := by
      rcases Nat.lt_or_ge j (l.length * 2) with h | h
      · exact h
      · rw [List.getElem?_eq_none (by omega)] at hj; cases hj
    obtain ⟨b', off', e, _, p0, p1⟩ := hL (j / 2) (by omega)
    injection e with e
    injection e with e1 e2
    subst e1 e2
    have ha := hat (j / 2) (by omega)
    rcases Nat.mod_two_eq_zero_or_one j with e | e
    · rw [show j / 2 * 2 = j by omega] at ha p0
      rw [ha.1] at hj
      rw [p0, hj]
    · rw [Nat.add_assoc, show j / 2 * 2 + 1 = j by omega] at p1
      rw [show j / 2 * 2 + 1 = j by omega] at ha
      rw [ha.2] at hj
      rw [p1, hj]) (cellsL_one l)
  change Calls Try.prog 72 _ _ _ at hc
  exact hc.mono fun e w' ⟨v, e1, e2, _, e4⟩ => ⟨v, e1, e2, e4⟩

/-- what Make answers -/
def makeL (l : List Lab) : List Lab := if chk l = 0 then sortL l else []

set_option maxRecDepth 100000 in
set_option maxHeartbeats 1000000 in
theorem make_any (ao : Option Addr) (cap : Nat) (l : List Lab) (w : World) (hl : l.length < 4611686018427387904) (hcap : l.length ≤ cap) (hL : LabsAt w ao l) :
    Calls Try.prog 62 #[.slice ao l.length cap] w fun e w' => ∃ v, e = .returned (.tuple #[v, .int .i64 (chk l : Int)]) ∧ w'.ownsRow w.heap.size 69 2 v (makeL l).length (cellsL (makeL l)) ∧ Below w.heap.size w w' := by
  have hc := check_any ao cap l w hl hcap hL
  unfold makeL
  by_cases h0 : chk l = 0
  · rw [if_pos h0]
    obtain ⟨hl1, hl8⟩ := chk_zero_len h0
    have hcl := fun (W : World) (hb : Below w.heap.size w W) => clone_any ao cap l W hl1 hl8 (hL.below hb (Nat.le_refl _))
    rw [h0] at hc ⊢
    rw [sortL_length]
    have HC := Lib.hid hc
    have HCL := Lib.hid hcl
    clear hc hcl hL h0 hcap hl1 hl8
    go_enter Try.func62, Try.ntmps62
    go_wp2_with (go_at_call 63; refine HC.out.mono ?_; rintro e w1 ⟨rfl, hb1⟩)
    go_wp2_with (go_at_call 72; refine (HCL.out _ hb1).mono ?_; rintro e w2 ⟨v, rfl, hown, hb2⟩)
    have hs := sort_any w2 w1.heap.size v l hown hl
    have HS := Lib.hid hs
    have HOW := Lib.hid hown
    clear hs hown
    go_wp2_with (go_at_call 73; refine HS.out.mono ?_; rintro e w3 ⟨rfl, hown3, hg3⟩)
    go_ret2
    exact ⟨_, rfl, own_low hown3 hb1.size, le_below hb1 (hb2.grown hg3 hb2.size (own_new HOW.out))⟩
  · rw [if_neg h0]
    have e1 : ((chk l : Int) != 0) = true := by rw [bne_iff_ne]; omega
    generalize chk l = R at *
    have HC := Lib.hid hc
    clear hc hL h0 hl hcap
    go_enter Try.func62, Try.ntmps62
    go_wp2_with (go_at_call 63; refine HC.out.mono ?_; rintro e w1 ⟨rfl, hb1⟩)
    go_ret2
    exact ⟨_, rfl, World.ownsRow_nil _ _ _ _, hb1⟩
end Go.Proofs.Ytcpkogboaniehaa.Lab

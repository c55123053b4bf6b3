/-
  A file behind a Restart: the contract of keep. Own text.
-/
import Derived.Test.YtanbmlikfhcpoaaDoorDUndo
namespace Go.Proofs.YtanbmlikfhcpoaaDoor.Disk
open Go.RowKit Go Go.Proofs.YtanbmlikfhcpoaaDoor.Base

theorem FileAt.noSteps {w : World} {fb : Nat} {bv sv : Value} {p : PF} (h : FileAt w fb bv sv p) : FileAt (w.setCell ⟨fb, 1, none⟩ (.slice none 0 0)) fb bv (.slice none 0 0) ⟨p.bytes, []⟩ := by
  obtain ⟨a1, a2, a3⟩ := h.apart
  refine ⟨?_, ?_, ?_⟩
  · rw [heap_setCell_same w fb 1 #[bv, sv] 58 _ h.cells]; rfl
  · exact row_of_block h.bytes fun k hk => Below.heap_setCell _ _ _ _ (fun e => a1 (by rw [hk]; exact congrArg some e))
  · exact World.ownsRow_nil _ _ _ _

theorem keep_bytes {w : World} {fb : Nat} {bv sv bv' : Value} {b : List Nat} {l : List PStep} {b' : List Nat} {w' : World} {m : Nat} (h : FileAt w fb bv sv ⟨b, l⟩) (hr : w'.ownsRow 0 5 1 bv' (b.length + m) (u8s b')) (hl : b'.length = b.length + m) (hg : w.grownBy w' bv.ownBlock) (hloc : bv'.ownBlock = bv.ownBlock ∨ bv'.ownBlock = some w.heap.size) :
    FileAt (w'.setCell ⟨fb, 0, none⟩ bv') fb bv' sv ⟨b', l⟩ ∧ w'.cell? ⟨fb, 0, none⟩ = some bv ∧ w'.frozen? ⟨fb, 0, none⟩ = false ∧ w'.frozen? ⟨fb, 1, none⟩ = false ∧ (w'.setCell ⟨fb, 0, none⟩ bv').cell? ⟨fb, 1, none⟩ = some sv := by
  have n1 := h.apart.1
  have hb : w'.heap[fb]? = w.heap[fb]? := hg.block fb h.lt (fun e => n1 e.symm)
  have hS := h.stored (Turn.of_grown hg (fun k hk => hk)) (bv' := bv') (b := b') (by rw [hl]; exact hr) (fun e => by
    rcases hloc with h1 | h1
    · rw [h1] at e; exact n1 e
    · rw [h1] at e; injection e with e; have := h.lt; omega)
  refine ⟨hS, ?_, ?_, ?_, hS.cell1⟩
  · rw [World.cell?_of_block (w := w) hb]; exact h.cell0
  · rw [World.frozen?_of_block (w := w) hb]; exact h.fro 0
  · rw [World.frozen?_of_block (w := w) hb]; exact h.fro 1

set_option maxRecDepth 100000 in
set_option maxHeartbeats 4000000 in
theorem keep_any (p : PF) (fb : Nat) (bv sv : Value) (w : World) (h : FileAt w fb bv sv p) (left B : Nat) (zeros : Bool) (hn : left ≤ unitsOf p.steps) (hb : unitsOf p.steps < 1099511627776) (hl : p.steps.length < 1099511627776) (hB : B < 1099511627776) (hG : p.Good B) :
    Calls Tryd.prog 27 #[.pointer (some ⟨fb, 0, none⟩), .int .i64 (left : Int), .bool zeros] w fun e w' =>
    e = .returned (.tuple #[]) ∧ ∃ bv', FileAt w' fb bv' (.slice none 0 0) (p.keep left zeros) ∧ Turn (fun k => k = fb ∨ bv.ownBlock = some k) w w' ∧ (bv'.ownBlock = bv.ownBlock ∨ ∃ k, bv'.ownBlock = some k ∧ w.heap.size ≤ k) := by
  obtain ⟨U, hU⟩ : ∃ U, unitsOf p.steps = U := ⟨_, rfl⟩
  have hu := units_any p fb bv sv w h (by omega) (by omega)
  have hd : ∀ W, Below w.heap.size w W → Calls Tryd.prog 46 #[.pointer (some ⟨fb, 0, none⟩), .int .i64 ((U - left : Nat) : Int)] W _ := fun W hW =>
    undo_any p fb bv sv W (h.turn (Turn.of_below (S := fun _ => False) hW) (fun _ _ h => h)) (U - left) B (by omega) hb hl hB hG
  have hgu := Good.undo hG (U - left) (by rw [unitsOf_reverse]; omega)
  rw [hU] at hu hn hb
  have hk : p.keep left zeros = ⟨if zeros && !(undoR p.steps.reverse p.bytes (U - left)).2 then (undoR p.steps.reverse p.bytes (U - left)).1 ++ List.replicate (U - left) 0 else (undoR p.steps.reverse p.bytes (U - left)).1, []⟩ := by
    unfold PF.keep; rw [hU]
  rw [hk]
  obtain ⟨R, hR⟩ : ∃ R, undoR p.steps.reverse p.bytes (U - left) = R := ⟨_, rfl⟩
  simp only [hR] at hd hgu ⊢
  obtain ⟨b2, x⟩ := R
  simp only at hd hgu ⊢
  have hb2 : b2.length ≤ B := hgu.1.1
  have hD := Lib.hid hd
  have hGU := Lib.hid hgu
  have Hh := Lib.hid h
  have hi : IntKind.i64.wrap ((U : Int) - (left : Int)) = ((U - left : Nat) : Int) := by rw [IntWalk.i64_in _ (by omega)]; omega
  generalize hL : U - left = L at *
  have hLl : L < 1099511627776 := by omega
  clear hd hgu h hk hR hU hG
  go_enter Tryd.func27, Tryd.ntmps27
  by_cases hz : zeros = true ∧ x = false
  · obtain ⟨rfl, rfl⟩ := hz
    go_wp2_with (first
      | (go_at_call 28; refine hu.mono ?_; rintro e w1 ⟨rfl, hb1⟩)
      | (go_at_call 46; ((with_reducible refine (hD.out _ hb1).mono ?_); rintro e w2 ⟨rfl, bv2, hF2, hT2, hO2⟩; have k0 := hF2.cell0; obtain ⟨bv3, w3, hrun3, hrow3, hg3, hloc3⟩ := Row.append_zeros w2 30 bv2 b2 b2.length rfl hF2.bytes L (by omega); obtain ⟨q0, q1, q2, q3, q4⟩ := keep_bytes hF2 hrow3 (by simp) hg3 hloc3; obtain ⟨ad3, cp3, rfl, _⟩ := row_len hrow3; have q5 := q0.fro 1; have HRun3 := Lib.hid hrun3; have HQ0 := Lib.hid q0; have HF2 := Lib.hid hF2; have HT2 := Lib.hid hT2; have HO2 := Lib.hid hO2; have HG3 := Lib.hid hg3; clear hrun3 q0 hrow3 hF2 hT2 hO2 hg3))
      | (at_builtin; refine Row.append_by rfl (.tmp 24) (.tmp 25) _ rfl _ _ rfl rfl HRun3.out ?_))
    go_end0
    have hN := HQ0.out.noSteps
    refine ⟨rfl, _, hN, ?_, ?_⟩
    · have hsz := hb1.size
      refine Turn.trans (S' := fun k => k = fb ∨ bv.ownBlock = some k) (Turn.of_below hb1) ?_ (fun _ _ h => h)
      refine HT2.out.trans (S' := fun k => k = fb ∨ bv2.ownBlock = some k) (((Turn.of_grown HG3.out (fun k hk => .inr hk)).set _ _ (fun _ => .inl rfl)).set _ _ (fun _ => .inl rfl)) ?_
      intro i hi hh
      rcases hh with hh | hh
      · exact .inl hh
      · rcases HO2.out with h1 | ⟨k, h1, h2⟩
        · rw [h1] at hh; exact .inr hh
        · rw [h1] at hh; injection hh with hh; omega
    · have hsz := hb1.size
      have hsz2 := HT2.out.size
      rcases hloc3 with h3 | h3
      · rw [h3]
        rcases HO2.out with h1 | ⟨k, h1, h2⟩
        · exact .inl h1
        · exact .inr ⟨k, h1, by omega⟩
      · exact .inr ⟨_, h3, by omega⟩
  · have hbytes : (if zeros && !x then b2 ++ List.replicate L 0 else b2) = b2 := by
      rw [if_neg]
      cases zeros <;> cases x <;> simp at hz ⊢
    rw [hbytes]
    have Hbytes := Lib.hid hbytes
    clear hbytes
    cases zeros
    all_goals cases x
    all_goals first
      | (exfalso; exact hz ⟨rfl, rfl⟩)
      | (go_wp2_with (first
          | (go_at_call 28; refine hu.mono ?_; rintro e w1 ⟨rfl, hb1⟩)
          | (go_at_call 46; ((with_reducible refine (hD.out _ hb1).mono ?_); rintro e w2 ⟨rfl, bv2, hF2, hT2, hO2⟩; have k1 := hF2.cell1; have f1 := hF2.fro 1; have HF2 := Lib.hid hF2; have HT2 := Lib.hid hT2; have HO2 := Lib.hid hO2; clear hF2 hT2 hO2)))
         go_end0
         have hN := HF2.out.noSteps
         have hsz := hb1.size
         refine ⟨rfl, _, hN, ?_, ?_⟩
         · refine Turn.trans (S' := fun k => k = fb ∨ bv.ownBlock = some k) (Turn.of_below hb1) ?_ (fun _ _ h => h)
           exact HT2.out.set _ _ (fun _ => .inl rfl)
         · rcases HO2.out with h1 | ⟨k, h1, h2⟩
           · exact .inl h1
           · exact .inr ⟨k, h1, by omega⟩)

end Go.Proofs.YtanbmlikfhcpoaaDoor.Disk

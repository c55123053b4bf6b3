/-
  Names steps as they are kept: closures with what they captured; what one does to a tree. Own text.
-/
import Derived.Test.YtanbmlikfhcpoaaDoorDPut2
namespace Go.Proofs.YtanbmlikfhcpoaaDoor.Disk
open Go.RowKit Go Go.Proofs.YtanbmlikfhcpoaaDoor.Base Go.Proofs.YtanbmlikfhcpoaaDoor.Map

/-- what a names step makes of a tree -/
def Applied (s : NStep) (g g' : TreeG) : Prop :=
  (s.kind = 1 ∧ ∃ fm b, g' = ⟨some fm, g.ds ++ [⟨s.a, b, []⟩]⟩) ∨ (s.kind = 2 ∧ PutTo g g' (dirOf s.a) (baseOf s.a) s.num)

/-- what a names step asks of the tree that it works on -/
def Fits (s : NStep) (g : TreeG) : Prop :=
  (s.kind = 1 → lookDir g s.a = none) ∧ s.a.size < 4294967281 ∧ s.b.size < 4294967281

/-- a text in a box of its own -/
def BoxS (w : World) (B : Nat) (s : ByteArray) : Prop := w.heap[B]? = some (.cells #[.string s] 9)
def BoxP (w : World) (B : Nat) (v : Value) : Prop := w.heap[B]? = some (.cells #[v] 53)

def lbox (B : Nat) : Value := .pointer (some ⟨B, 0, none⟩)

/-- a names step in memory: the function, and the blocks of what it captured -/
def StepAt (w : World) (ptr : Nat → Nat) (v : Value) (bs : List Nat) (s : NStep) : Prop :=
  (∃ B, s.kind = 1 ∧ v = .func (.func 35) #[] #[lbox B] ∧ bs = [B] ∧ BoxS w B s.a) ∨
  (∃ B C, s.kind = 2 ∧ v = .func (.func 39) #[] #[lbox B, lbox C] ∧ bs = [B, C] ∧ BoxS w B s.a ∧ BoxP w C (ptrV ptr s.num))

theorem StepAt.of_heap {w w' : World} {ptr : Nat → Nat} {v : Value} {bs : List Nat} {s : NStep} (h : StepAt w ptr v bs s) (hh : ∀ b ∈ bs, w'.heap[b]? = w.heap[b]?) : StepAt w' ptr v bs s := by
  rcases h with ⟨B, h1, h2, rfl, h4⟩ | ⟨B, C, h1, h2, rfl, h4, h5⟩
  · exact .inl ⟨B, h1, h2, rfl, (hh B (by simp)).trans h4⟩
  · exact .inr ⟨B, C, h1, h2, rfl, (hh B (by simp)).trans h4, (hh C (by simp)).trans h5⟩

theorem StepAt.lt {w : World} {ptr : Nat → Nat} {v : Value} {bs : List Nat} {s : NStep} (h : StepAt w ptr v bs s) : ∀ b ∈ bs, b < w.heap.size := by
  rcases h with ⟨B, h1, h2, rfl, h4⟩ | ⟨B, C, h1, h2, rfl, h4, h5⟩
  · intro b hb; simp at hb; subst hb; exact (Array.getElem?_eq_some_iff.1 h4).1
  · intro b hb; simp at hb; rcases hb with rfl | rfl
    · exact (Array.getElem?_eq_some_iff.1 h4).1
    · exact (Array.getElem?_eq_some_iff.1 h5).1

set_option maxHeartbeats 1000000 in
/-- A NAMES STEP IS MADE ON A TREE -/
theorem step_applies {w : World} {ptr : Nat → Nat} {v : Value} {bs : List Nat} {s : NStep} (hs : StepAt w ptr v bs s) {g : TreeG} (h : TreeAt w ptr g) (tb to' : Nat) (cs : Array Value) (e : TypeId) (hh : Holds w tb to' cs e g) (hf : Fits s g) (hm : Max w) :
    ∃ gf lb, v = .func (.func gf) #[] lb ∧ (∀ args w, (callFunc gf args).run Tryd.prog w = .ok (.enter gf args) w) ∧
      Calls Tryd.prog gf (#[.pointer (some ⟨tb, to', none⟩)] ++ lb) w fun r w' => r = .returned (.tuple #[]) ∧ ∃ g', Applied s g g' ∧ Wrote w w' ptr tb to' cs e g g' := by
  rcases hs with ⟨B, h1, rfl, rfl, h4⟩ | ⟨B, C, h1, rfl, rfl, h4, h5⟩
  · refine ⟨_, _, rfl, enters_of Tryd.func35 (by kernel_rfl) rfl, ?_⟩
    have hc := addFolder_any h tb to' cs e hh s.a (hf.1 h1)
    have hb : w.cell? ⟨B, 0, none⟩ = some (.string s.a) := by rw [cell_of_row w B 0 _ _ _ h4]; rfl
    have HC := Lib.hid hc
    have H1 := Lib.hid h1
    clear h hh hf hm h4 hc h1
    unfold lbox
    go_enter Tryd.func35, Tryd.ntmps35
    go_wp2_with (go_at_call 36; ((with_reducible refine HC.out.mono ?_); rintro r w2 ⟨rfl, fm, b, hW⟩))
    go_end0
    exact ⟨rfl, _, .inl ⟨H1.out, fm, b, rfl⟩, hW⟩
  · refine ⟨_, _, rfl, enters_of Tryd.func39 (by kernel_rfl) rfl, ?_⟩
    have hc := put_any h tb to' cs e hh s.a hf.2.1 s.num hm
    have hb : w.cell? ⟨B, 0, none⟩ = some (.string s.a) := by rw [cell_of_row w B 0 _ _ _ h4]; rfl
    have hb2 : w.cell? ⟨C, 0, none⟩ = some (ptrV ptr s.num) := by rw [cell_of_row w C 0 _ _ _ h5]; rfl
    unfold ptrV at hb2
    unfold ptrV at hc
    have HC := Lib.hid hc
    have H1 := Lib.hid h1
    clear h hh hf hm h4 hc h5 h1
    unfold lbox
    go_enter Tryd.func39, Tryd.ntmps39
    go_wp2_with (go_at_call 40; ((with_reducible refine HC.out.mono ?_); rintro r w2 ⟨rfl, g', hp, hW⟩))
    go_end0
    exact ⟨rfl, _, .inr ⟨H1.out, hp⟩, hW⟩

end Go.Proofs.YtanbmlikfhcpoaaDoor.Disk

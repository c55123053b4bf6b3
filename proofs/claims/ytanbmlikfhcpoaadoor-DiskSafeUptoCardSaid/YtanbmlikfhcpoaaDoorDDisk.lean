/-
  A disk in memory: its cells, its trees, its files, its names steps; what writes leave as it was. Own text.
-/
import Derived.Test.YtanbmlikfhcpoaaDoorDStep
import Derived.Test.YtanbmlikfhcpoaaDoorDExtend
namespace Go.Proofs.YtanbmlikfhcpoaaDoor.Disk
open Go.RowKit Go Go.Proofs.YtanbmlikfhcpoaaDoor.Base Go.Proofs.YtanbmlikfhcpoaaDoor.Map

structure StepG where
  s : NStep
  v : Value
  bs : List Nat

structure DiskG where
  gc : TreeG
  gd : TreeG
  ptr : Nat → Nat
  pfs : List PF
  bvs : Nat → Value
  svs : Nat → Value
  steps : List StepG
  nv : Value
  cap : Nat
  used : Nat
  off : Bool
  crash : Nat

def DiskG.cells (G : DiskG) : Array Value := #[topV G.gc, topV G.gd, G.nv, .int .i64 (G.cap : Int), .int .i64 (G.used : Int), .bool G.off, .int .i64 (G.crash : Int)]

def isK (w : World) (k : Nat) (e : TypeId) : Prop := ∃ cur fr, w.heap[k]? = some (.cells cur e fr)
def isMap (w : World) (k : Nat) : Prop := ∃ es c, w.heap[k]? = some (.map es c)
theorem isK.one {w : World} {k : Nat} {e e' : TypeId} (h : isK w k e) (h' : isK w k e') : e = e' := by
  obtain ⟨c, f, h⟩ := h; obtain ⟨c', f', h'⟩ := h'
  rw [h] at h'; simp at h'; exact h'.2.1
theorem isK.noMap {w : World} {k : Nat} {e : TypeId} (h : isK w k e) (h' : isMap w k) : False := by
  obtain ⟨c, f, h⟩ := h; obtain ⟨c', f', h'⟩ := h'
  rw [h] at h'; cases h'
theorem isK.ne {w : World} {k j : Nat} {e e' : TypeId} (h : isK w k e) (h' : isK w j e') (he : e ≠ e') : k ≠ j := fun hk => he (by subst hk; exact h.one h')

theorem TreeAt.maps {w : World} {ptr : Nat → Nat} {g : TreeG} (h : TreeAt w ptr g) : ∀ b ∈ g.blocks, isMap w b := by
  intro b hb
  unfold TreeG.blocks at hb
  rcases List.mem_append.1 hb with hb | hb
  · cases hf : g.fm with
    | none => rw [hf] at hb; simp at hb
    | some fm => rw [hf] at hb; simp at hb; subst hb; obtain ⟨es, c, h1, _⟩ := h.top _ hf; exact ⟨es, c, h1⟩
  · obtain ⟨x, hx, rfl⟩ := List.mem_map.1 hb
    obtain ⟨es, c, h1, _⟩ := h.dirs x hx
    exact ⟨es, c, h1⟩

theorem StepAt.kinds {w : World} {ptr : Nat → Nat} {v : Value} {bs : List Nat} {s : NStep} (h : StepAt w ptr v bs s) : ∀ b ∈ bs, isK w b 9 ∨ isK w b 53 := by
  rcases h with ⟨B, h1, h2, rfl, h4⟩ | ⟨B, C, h1, h2, rfl, h4, h5⟩
  · intro b hb; simp at hb; subst hb; exact .inl ⟨_, _, h4⟩
  · intro b hb; simp at hb; rcases hb with rfl | rfl
    · exact .inl ⟨_, _, h4⟩
    · exact .inr ⟨_, _, h5⟩

/-- all but the struct itself -/
structure Parts (w : World) (G : DiskG) : Prop where
  cur : TreeAt w G.ptr G.gc
  dur : TreeAt w G.ptr G.gd
  trees : ∀ b ∈ G.gc.blocks, b ∉ G.gd.blocks
  row : w.ownsRow 0 74 1 G.nv G.steps.length (G.steps.map (·.v))
  steps : ∀ x ∈ G.steps, StepAt w G.ptr x.v x.bs x.s
  files : ∀ i (hi : i < G.pfs.length), FileAt w (G.ptr i) (G.bvs i) (G.svs i) (G.pfs[i]'hi)
  inj : ∀ i j, i < G.pfs.length → j < G.pfs.length → G.ptr i = G.ptr j → i = j
  bytes : ∀ i j k, i < G.pfs.length → j < G.pfs.length → (G.bvs i).ownBlock = some k → (G.bvs j).ownBlock = some k → i = j
  rows : ∀ i j k, i < G.pfs.length → j < G.pfs.length → (G.svs i).ownBlock = some k → (G.svs j).ownBlock = some k → i = j

theorem Parts.turn {w w' : World} {G : DiskG} (h : Parts w G) {S : Nat → Prop} (ht : Turn S w w') (h1 : ∀ b ∈ G.gc.blocks, ¬ S b) (h2 : ∀ b ∈ G.gd.blocks, ¬ S b) (h3 : ∀ k, G.nv.ownBlock = some k → ¬ S k)
    (h4 : ∀ x ∈ G.steps, ∀ b ∈ x.bs, ¬ S b) (h5 : ∀ i, i < G.pfs.length → ∀ k, fileOwn (G.ptr i) (G.bvs i) (G.svs i) k → ¬ S k) : Parts w' G :=
  ⟨h.cur.of_heap fun b hb => ht.block b (h.cur.lt b hb) (h1 b hb), h.dur.of_heap fun b hb => ht.block b (h.dur.lt b hb) (h2 b hb), h.trees, row_turn h.row ht h3,
    fun x hx => (h.steps x hx).of_heap fun b hb => ht.block b ((h.steps x hx).lt b hb) (h4 x hx b hb), fun i hi => (h.files i hi).turn ht (h5 i hi), h.inj, h.bytes, h.rows⟩

/-- a disk in memory -/
structure DiskAt (w : World) (D : Nat) (G : DiskG) : Prop where
  block : w.heap[D]? = some (.cells G.cells 46)
  parts : Parts w G

def DiskG.own (G : DiskG) (D : Nat) : Nat → Prop := fun k => k = D ∨ k ∈ G.gc.blocks ∨ k ∈ G.gd.blocks ∨ G.nv.ownBlock = some k ∨ (∃ x ∈ G.steps, k ∈ x.bs) ∨ (∃ i, i < G.pfs.length ∧ fileOwn (G.ptr i) (G.bvs i) (G.svs i) k)

section
variable {w w' : World} {D : Nat} {G : DiskG}

theorem DiskAt.lt (h : DiskAt w D G) : D < w.heap.size := (Array.getElem?_eq_some_iff.1 h.block).1
theorem DiskAt.cell (h : DiskAt w D G) (i : Nat) : w.cell? ⟨D, i, none⟩ = G.cells[i]? := cell_of_row w D i _ _ _ h.block
theorem DiskAt.fro (h : DiskAt w D G) (i : Nat) : w.frozen? ⟨D, i, none⟩ = false := by simp [World.frozen?, h.block]
theorem DiskAt.kind (h : DiskAt w D G) : isK w D 46 := ⟨_, _, h.block⟩

theorem row_kind {e : TypeId} {size : Nat} {v : Value} {n : Nat} {xs : List Value} (h : w.ownsRow 0 e size v n xs) {k : Nat} (hk : v.ownBlock = some k) : isK w k e := by
  obtain ⟨cur, hc⟩ := row_cells h hk; exact ⟨cur, _, hc⟩

theorem FileAt.kinds {fb : Nat} {bv sv : Value} {p : PF} (h : FileAt w fb bv sv p) {k : Nat} (hk : fileOwn fb bv sv k) : isK w k 58 ∨ isK w k 5 ∨ isK w k 81 := by
  rcases hk with rfl | hk | hk
  · exact .inl ⟨_, _, h.cells⟩
  · exact .inr (.inl (row_kind h.bytes hk))
  · exact .inr (.inr (row_kind h.steps hk))

/-- a write to the struct leaves the rest -/
theorem Parts.notD (h : Parts w G) (hD : isK w D 46) :
    (∀ b ∈ G.gc.blocks, b ≠ D) ∧ (∀ b ∈ G.gd.blocks, b ≠ D) ∧ (∀ k, G.nv.ownBlock = some k → k ≠ D) ∧ (∀ x ∈ G.steps, ∀ b ∈ x.bs, b ≠ D) ∧ (∀ i, i < G.pfs.length → ∀ k, fileOwn (G.ptr i) (G.bvs i) (G.svs i) k → k ≠ D) := by
  refine ⟨fun b hb e => ?_, fun b hb e => ?_, fun k hk e => ?_, fun x hx b hb e => ?_, fun i hi k hk e => ?_⟩
  · subst e; exact hD.noMap (h.cur.maps _ hb)
  · subst e; exact hD.noMap (h.dur.maps _ hb)
  · exact (row_kind h.row hk).ne hD (by decide) e
  · rcases (h.steps x hx).kinds b hb with h1 | h1 <;> exact h1.ne hD (by decide) e
  · rcases (h.files i hi).kinds hk with h1 | h1 | h1 <;> exact h1.ne hD (by decide) e

theorem Parts.set (h : Parts w G) (hD : isK w D 46) (i : Nat) (v : Value) : Parts (w.setCell ⟨D, i, none⟩ v) G := by
  obtain ⟨h1, h2, h3, h4, h5⟩ := h.notD hD
  exact h.turn (S := fun k => k = D) ((Turn.refl _ w).set _ _ (fun _ => rfl)) h1 h2 h3 h4 h5

theorem Parts.below (h : Parts w G) (hb : Below w.heap.size w w') : Parts w' G :=
  h.turn (S := fun _ => False) (Turn.of_below hb) (fun _ _ h => h) (fun _ _ h => h) (fun _ _ h => h) (fun _ _ _ _ h => h) (fun _ _ _ _ h => h)

theorem DiskAt.below (h : DiskAt w D G) (hb : Below w.heap.size w w') : DiskAt w' D G := ⟨(hb.block D h.lt).trans h.block, h.parts.below hb⟩

/-- a scalar of the struct is stored -/
theorem DiskAt.set (h : DiskAt w D G) (i : Nat) (v : Value) (G' : DiskG) (hc : G'.cells = G.cells.setIfInBounds i v) (hp : Parts w G → Parts w G') : DiskAt (w.setCell ⟨D, i, none⟩ v) D G' := by
  refine ⟨?_, ?_⟩
  · rw [heap_setCell_same w D i G.cells _ v h.block, hc]
  · have := (hp h.parts).set h.kind i v
    exact this

theorem Parts.own_lt (h : DiskAt w D G) : ∀ k, G.own D k → k < w.heap.size := by
  intro k hk
  rcases hk with rfl | hk | hk | hk | ⟨x, hx, hk⟩ | ⟨i, hi, hk⟩
  · exact h.lt
  · exact h.parts.cur.lt k hk
  · exact h.parts.dur.lt k hk
  · exact row_lt h.parts.row hk
  · exact (h.parts.steps x hx).lt k hk
  · have hf := h.parts.files i hi
    rcases hk with rfl | hk | hk
    · exact hf.lt
    · exact row_lt hf.bytes hk
    · exact row_lt hf.steps hk

end
end Go.Proofs.YtanbmlikfhcpoaaDoor.Disk

/-
  The texts DDisk, DErr, DChange, joined. Own text.
-/
import Derived.Test.YtmmlefbokplnnaaGreatDoorJ11
import Derived.Test.YtmmlefbokplnnaaGreatDoorJ09
set_option linter.unusedVariables false
set_option linter.unusedSimpArgs false
namespace Go.Proofs.YtmmlefbokplnnaaGreatDoor.Disk
open Go.RowKit Go Go.Proofs.YtmmlefbokplnnaaGreatDoor.Base Go.Proofs.YtmmlefbokplnnaaGreatDoor.Map

structure StepG where
  s : NStep
  v : Value
  bs : List Nat

structure DiskG where
  gc : TreeG
  gd : TreeG
  ptr : Nat → Nat
  pfs : List PF
  bvs : Nat → Value
  svs : Nat → Value
  steps : List StepG
  nv : Value
  cap : Nat
  used : Nat
  off : Bool
  crash : Nat

def DiskG.cells (G : DiskG) : Array Value := #[topV G.gc, topV G.gd, G.nv, .int .i64 (G.cap : Int), .int .i64 (G.used : Int), .bool G.off, .int .i64 (G.crash : Int)]

def isK (w : World) (k : Nat) (e : TypeId) : Prop := ∃ cur fr, w.heap[k]? = some (.cells cur e fr)
def isMap (w : World) (k : Nat) : Prop := ∃ es c, w.heap[k]? = some (.map es c)
theorem isK.one {w : World} {k : Nat} {e e' : TypeId} (h : isK w k e) (h' : isK w k e') : e = e' := by
  obtain ⟨c, f, h⟩ := h; obtain ⟨c', f', h'⟩ := h'
  rw [h] at h'; simp at h'; exact h'.2.1
theorem isK.noMap {w : World} {k : Nat} {e : TypeId} (h : isK w k e) (h' : isMap w k) : False := by
  obtain ⟨c, f, h⟩ := h; obtain ⟨c', f', h'⟩ := h'
  rw [h] at h'; cases h'
theorem isK.ne {w : World} {k j : Nat} {e e' : TypeId} (h : isK w k e) (h' : isK w j e') (he : e ≠ e') : k ≠ j := fun hk => he (by subst hk; exact h.one h')

theorem TreeAt.maps {w : World} {ptr : Nat → Nat} {g : TreeG} (h : TreeAt w ptr g) : ∀ b ∈ g.blocks, isMap w b := by
  intro b hb
  unfold TreeG.blocks at hb
  rcases List.mem_append.1 hb with hb | hb
  · cases hf : g.fm with
    | none => rw [hf] at hb; simp at hb
    | some fm => rw [hf] at hb; simp at hb; subst hb; obtain ⟨es, c, h1, _⟩ := h.top _ hf; exact ⟨es, c, h1⟩
  · obtain ⟨x, hx, rfl⟩ := List.mem_map.1 hb
    obtain ⟨es, c, h1, _⟩ := h.dirs x hx
    exact ⟨es, c, h1⟩

theorem StepAt.kinds {w : World} {ptr : Nat → Nat} {v : Value} {bs : List Nat} {s : NStep} (h : StepAt w ptr v bs s) : ∀ b ∈ bs, isK w b 9 ∨ isK w b 88 := by
  rcases h with ⟨B, h1, h2, rfl, h4⟩ | ⟨B, C, h1, h2, rfl, h4, h5⟩ | ⟨B, C, h1, h2, rfl, h4, h5⟩ | ⟨B, h1, h2, rfl, h4⟩
  · intro b hb; simp at hb; subst hb; exact .inl ⟨_, _, h4⟩
  · intro b hb; simp at hb; rcases hb with rfl | rfl
    · exact .inl ⟨_, _, h4⟩
    · exact .inr ⟨_, _, h5⟩
  · intro b hb; simp at hb; rcases hb with rfl | rfl
    · exact .inl ⟨_, _, h4⟩
    · exact .inl ⟨_, _, h5⟩
  · intro b hb; simp at hb; subst hb; exact .inl ⟨_, _, h4⟩

/-- all but the struct itself -/
structure Parts (w : World) (G : DiskG) : Prop where
  cur : TreeAt w G.ptr G.gc
  dur : TreeAt w G.ptr G.gd
  trees : ∀ b ∈ G.gc.blocks, b ∉ G.gd.blocks
  row : w.ownsRow 0 126 1 G.nv G.steps.length (G.steps.map (·.v))
  steps : ∀ x ∈ G.steps, StepAt w G.ptr x.v x.bs x.s
  files : ∀ i (hi : i < G.pfs.length), FileAt w (G.ptr i) (G.bvs i) (G.svs i) (G.pfs[i]'hi)
  inj : ∀ i j, i < G.pfs.length → j < G.pfs.length → G.ptr i = G.ptr j → i = j
  bytes : ∀ i j k, i < G.pfs.length → j < G.pfs.length → (G.bvs i).ownBlock = some k → (G.bvs j).ownBlock = some k → i = j
  rows : ∀ i j k, i < G.pfs.length → j < G.pfs.length → (G.svs i).ownBlock = some k → (G.svs j).ownBlock = some k → i = j

theorem Parts.turn {w w' : World} {G : DiskG} (h : Parts w G) {S : Nat → Prop} (ht : Turn S w w') (h1 : ∀ b ∈ G.gc.blocks, ¬ S b) (h2 : ∀ b ∈ G.gd.blocks, ¬ S b) (h3 : ∀ k, G.nv.ownBlock = some k → ¬ S k)
    (h4 : ∀ x ∈ G.steps, ∀ b ∈ x.bs, ¬ S b) (h5 : ∀ i, i < G.pfs.length → ∀ k, fileOwn (G.ptr i) (G.bvs i) (G.svs i) k → ¬ S k) : Parts w' G :=
  ⟨h.cur.of_heap fun b hb => ht.block b (h.cur.lt b hb) (h1 b hb), h.dur.of_heap fun b hb => ht.block b (h.dur.lt b hb) (h2 b hb), h.trees, row_turn h.row ht h3,
    fun x hx => (h.steps x hx).of_heap fun b hb => ht.block b ((h.steps x hx).lt b hb) (h4 x hx b hb), fun i hi => (h.files i hi).turn ht (h5 i hi), h.inj, h.bytes, h.rows⟩

/-- a disk in memory -/
structure DiskAt (w : World) (D : Nat) (G : DiskG) : Prop where
  block : w.heap[D]? = some (.cells G.cells 63)
  parts : Parts w G

def DiskG.own (G : DiskG) (D : Nat) : Nat → Prop := fun k => k = D ∨ k ∈ G.gc.blocks ∨ k ∈ G.gd.blocks ∨ G.nv.ownBlock = some k ∨ (∃ x ∈ G.steps, k ∈ x.bs) ∨ (∃ i, i < G.pfs.length ∧ fileOwn (G.ptr i) (G.bvs i) (G.svs i) k)

section
variable {w w' : World} {D : Nat} {G : DiskG}

theorem DiskAt.lt (h : DiskAt w D G) : D < w.heap.size := (Array.getElem?_eq_some_iff.1 h.block).1
theorem DiskAt.cell (h : DiskAt w D G) (i : Nat) : w.cell? ⟨D, i, none⟩ = G.cells[i]? := cell_of_row w D i _ _ _ h.block
theorem DiskAt.fro (h : DiskAt w D G) (i : Nat) : w.frozen? ⟨D, i, none⟩ = false := by simp [World.frozen?, h.block]
theorem DiskAt.kind (h : DiskAt w D G) : isK w D 63 := ⟨_, _, h.block⟩

theorem row_kind {e : TypeId} {size : Nat} {v : Value} {n : Nat} {xs : List Value} (h : w.ownsRow 0 e size v n xs) {k : Nat} (hk : v.ownBlock = some k) : isK w k e := by
  obtain ⟨cur, hc⟩ := row_cells h hk; exact ⟨cur, _, hc⟩

theorem FileAt.kinds {fb : Nat} {bv sv : Value} {p : PF} (h : FileAt w fb bv sv p) {k : Nat} (hk : fileOwn fb bv sv k) : isK w k 94 ∨ isK w k 5 ∨ isK w k 135 := by
  rcases hk with rfl | hk | hk
  · exact .inl ⟨_, _, h.cells⟩
  · exact .inr (.inl (row_kind h.bytes hk))
  · exact .inr (.inr (row_kind h.steps hk))

/-- a write to the struct leaves the rest -/
theorem Parts.notD (h : Parts w G) (hD : isK w D 63) :
    (∀ b ∈ G.gc.blocks, b ≠ D) ∧ (∀ b ∈ G.gd.blocks, b ≠ D) ∧ (∀ k, G.nv.ownBlock = some k → k ≠ D) ∧ (∀ x ∈ G.steps, ∀ b ∈ x.bs, b ≠ D) ∧ (∀ i, i < G.pfs.length → ∀ k, fileOwn (G.ptr i) (G.bvs i) (G.svs i) k → k ≠ D) := by
  refine ⟨fun b hb e => ?_, fun b hb e => ?_, fun k hk e => ?_, fun x hx b hb e => ?_, fun i hi k hk e => ?_⟩
  · subst e; exact hD.noMap (h.cur.maps _ hb)
  · subst e; exact hD.noMap (h.dur.maps _ hb)
  · exact (row_kind h.row hk).ne hD (by decide) e
  · rcases (h.steps x hx).kinds b hb with h1 | h1 <;> exact h1.ne hD (by decide) e
  · rcases (h.files i hi).kinds hk with h1 | h1 | h1 <;> exact h1.ne hD (by decide) e

theorem Parts.set (h : Parts w G) (hD : isK w D 63) (i : Nat) (v : Value) : Parts (w.setCell ⟨D, i, none⟩ v) G := by
  obtain ⟨h1, h2, h3, h4, h5⟩ := h.notD hD
  exact h.turn (S := fun k => k = D) ((Turn.refl _ w).set _ _ (fun _ => rfl)) h1 h2 h3 h4 h5

theorem Parts.below (h : Parts w G) (hb : Below w.heap.size w w') : Parts w' G :=
  h.turn (S := fun _ => False) (Turn.of_below hb) (fun _ _ h => h) (fun _ _ h => h) (fun _ _ h => h) (fun _ _ _ _ h => h) (fun _ _ _ _ h => h)

theorem DiskAt.below (h : DiskAt w D G) (hb : Below w.heap.size w w') : DiskAt w' D G := ⟨(hb.block D h.lt).trans h.block, h.parts.below hb⟩

/-- a scalar of the struct is stored -/
theorem DiskAt.set (h : DiskAt w D G) (i : Nat) (v : Value) (G' : DiskG) (hc : G'.cells = G.cells.setIfInBounds i v) (hp : Parts w G → Parts w G') : DiskAt (w.setCell ⟨D, i, none⟩ v) D G' := by
  refine ⟨?_, ?_⟩
  · rw [heap_setCell_same w D i G.cells _ v h.block, hc]
  · have := (hp h.parts).set h.kind i v
    exact this

theorem Parts.own_lt (h : DiskAt w D G) : ∀ k, G.own D k → k < w.heap.size := by
  intro k hk
  rcases hk with rfl | hk | hk | hk | ⟨x, hx, hk⟩ | ⟨i, hi, hk⟩
  · exact h.lt
  · exact h.parts.cur.lt k hk
  · exact h.parts.dur.lt k hk
  · exact row_lt h.parts.row hk
  · exact (h.parts.steps x hx).lt k hk
  · have hf := h.parts.files i hi
    rcases hk with rfl | hk | hk
    · exact hf.lt
    · exact row_lt hf.bytes hk
    · exact row_lt hf.steps hk

end
end Go.Proofs.YtmmlefbokplnnaaGreatDoor.Disk

namespace Go.Proofs.YtmmlefbokplnnaaGreatDoor.Disk
open Go.RowKit Go Go.Proofs.YtmmlefbokplnnaaGreatDoor.Base

/-- a failure as a value: E says where the package's variables lead -/
def errV (E : Nat → Addr) : Nat → Value
  | 0 => .nilIface
  | c + 1 => .iface 185 (.pointer (some (E (c + 1))))

/-- the package's variables -/
structure Env (w : World) (E : Nat → Addr) : Prop where
  max : Max w
  off : w.cell? ⟨0, 0, none⟩ = some (errV E 1)
  name : w.cell? ⟨1, 0, none⟩ = some (errV E 2)
  kind : w.cell? ⟨2, 0, none⟩ = some (errV E 3)
  missing : w.cell? ⟨3, 0, none⟩ = some (errV E 4)
  exists' : w.cell? ⟨4, 0, none⟩ = some (errV E 5)
  range : w.cell? ⟨5, 0, none⟩ = some (errV E 6)
  space : w.cell? ⟨6, 0, none⟩ = some (errV E 7)

/-- the blocks of the variables: no disk lies there -/
def glob (k : Nat) : Prop := k < 8

theorem Env.turn {S : Nat → Prop} {w w' : World} {E : Nat → Addr} (h : Env w E) (ht : Turn S w w') (hs : ∀ k, k < 8 → ¬ S k) : Env w' E := by
  obtain ⟨m, hm⟩ := h.max
  refine ⟨⟨m, ht.cell hm (hs _ (by decide))⟩, ht.cell h.off (hs _ (by decide)), ht.cell h.name (hs _ (by decide)), ht.cell h.kind (hs _ (by decide)), ht.cell h.missing (hs _ (by decide)), ht.cell h.exists' (hs _ (by decide)),
    ht.cell h.range (hs _ (by decide)),
    ht.cell h.space (hs _ (by decide))⟩

/-- an error as the calls hand it back -/
def refV (B : Nat) : Nat → Value
  | 0 => .nilIface
  | _ => .iface 111 (.pointer (some ⟨B, 0, none⟩))

theorem refused_ok (op path : ByteArray) (w : World) : Calls Tryz.prog 55 #[.string op, .string path, .nilIface] w fun e w' => e = .returned .nilIface ∧ w = w' := by
  go_enter Tryz.func55, Tryz.ntmps55
  go_wp2
  go_ret
  exact ⟨rfl, rfl⟩

theorem refused_no (op path : ByteArray) (E : Nat → Addr) (c : Nat) (w : World) : Calls Tryz.prog 55 #[.string op, .string path, errV E (c + 1)] w fun e w' =>
    e = .returned (refV w.heap.size (c + 1)) ∧ w' = w.alloc (.cells #[.string op, .string path, errV E (c + 1)] 114) := by
  unfold errV refV
  go_enter Tryz.func55, Tryz.ntmps55
  go_wp2
  go_ret
  exact ⟨rfl, rfl⟩

theorem refused_any (op path : ByteArray) (E : Nat → Addr) (c : Nat) (w : World) : Calls Tryz.prog 55 #[.string op, .string path, errV E c] w fun e w' =>
    e = .returned (refV w.heap.size c) ∧ (w' = if c = 0 then w else w.alloc (.cells #[.string op, .string path, errV E c] 114)) := by
  cases c with
  | zero => exact (refused_ok op path w).mono fun e w' ⟨h1, h2⟩ => ⟨h1, h2.symm⟩
  | succ c => exact (refused_no op path E c w).mono fun e w' ⟨h1, h2⟩ => ⟨h1, by rw [if_neg (by omega)]; exact h2⟩

theorem off_nil (w : World) : Calls Tryz.prog 16 #[.pointer none] w fun e w' => e = .returned (.bool true) ∧ w = w' := by
  go_enter Tryz.func16, Tryz.ntmps16
  go_wp2
  go_ret
  exact ⟨rfl, rfl⟩

theorem off_any {w : World} {D : Nat} {G : DiskG} (h : DiskAt w D G) : Calls Tryz.prog 16 #[.pointer (some ⟨D, 0, none⟩)] w fun e w' => e = .returned (.bool G.off) ∧ w = w' := by
  have c5 : w.cell? ⟨D, 5, none⟩ = some (.bool G.off) := h.cell 5
  clear h
  go_enter Tryz.func16, Tryz.ntmps16
  go_wp2
  go_ret
  exact ⟨rfl, rfl⟩

/-- the failure of a step, and the disk behind it -/
def stepCode (G : DiskG) : Nat := if G.crash = 1 then 1 else 0
def ticked (G : DiskG) : DiskG := if G.crash = 1 then { G with off := true } else { G with crash := G.crash - 1 }

/-- what a call that answers an error leaves: all as it was; or the power is off -/
def Refused (G : DiskG) (c : Nat) (G' : DiskG) : Prop := (G' = G ∧ (G.off = true ∨ c ≠ 1)) ∨ (G.crash = 1 ∧ c = 1 ∧ G' = { G with off := true })

set_option maxRecDepth 100000 in
theorem step_any {w : World} {D : Nat} {G : DiskG} {E : Nat → Addr} (h : DiskAt w D G) (he : Env w E) (hc : G.crash < 9223372036854775808) :
    Calls Tryz.prog 97 #[.pointer (some ⟨D, 0, none⟩)] w fun e w' => e = .returned (errV E (stepCode G)) ∧ DiskAt w' D (ticked G) ∧ Turn (fun k => k = D) w w' := by
  have c6 : w.cell? ⟨D, 6, none⟩ = some (.int .i64 (G.crash : Int)) := h.cell 6
  have c5 : w.cell? ⟨D, 5, none⟩ = some (.bool G.off) := h.cell 5
  have f5 := h.fro 5
  have f6 := h.fro 6
  have g0 := he.off
  unfold errV at g0
  unfold stepCode ticked errV
  have HD := Lib.hid h
  clear h he
  by_cases h1 : G.crash = 1
  · have h1i : (G.crash : Int) = 1 := by omega
    rw [h1i] at c6
    rw [if_pos h1, if_pos h1]
    go_enter Tryz.func97, Tryz.ntmps97
    go_wp2
    go_ret
    refine ⟨rfl, ?_, (Turn.refl _ w).set _ _ (fun _ => rfl)⟩
    refine HD.out.set 5 (.bool true) _ (by simp [DiskG.cells, topV, h1]) (fun hp => ⟨hp.cur, hp.dur, hp.trees, hp.row, hp.steps, hp.files, hp.inj, hp.bytes, hp.rows⟩)
  · have h1i : ¬ (G.crash : Int) = 1 := by omega
    rw [if_neg h1, if_neg h1]
    by_cases h0 : G.crash = 0
    · have h0i : (G.crash : Int) = 0 := by omega
      rw [h0i] at c6
      go_enter Tryz.func97, Tryz.ntmps97
      go_wp2
      go_ret
      refine ⟨rfl, ?_, (Turn.refl _ w).set _ _ (fun _ => rfl)⟩
      exact HD.out.set 6 (.int .i64 0) _ (by simp [DiskG.cells, topV]) (fun hp => ⟨hp.cur, hp.dur, hp.trees, hp.row, hp.steps, hp.files, hp.inj, hp.bytes, hp.rows⟩)
    · obtain ⟨q, hq⟩ : ∃ q, G.crash = q + 2 := ⟨G.crash - 2, by omega⟩
      rw [hq] at c6 hc
      have hqi : ¬ (((q + 2 : Nat) : Int)) = 1 := by omega
      have hgt : ¬ (((q + 2 : Nat) : Int) - 1 ≤ 0) := by omega
      go_enter Tryz.func97, Tryz.ntmps97
      go_wp2
      go_ret
      refine ⟨rfl, ?_, (Turn.refl _ w).set _ _ (fun _ => rfl)⟩
      exact HD.out.set 6 (.int .i64 (max ((q : Int) + 2 - 1) 0)) _ (by simp [DiskG.cells, topV]; omega) (fun hp => ⟨hp.cur, hp.dur, hp.trees, hp.row, hp.steps, hp.files, hp.inj, hp.bytes, hp.rows⟩)

end Go.Proofs.YtmmlefbokplnnaaGreatDoor.Disk

namespace Go.Proofs.YtmmlefbokplnnaaGreatDoor.Disk
open Go.RowKit Go Go.Proofs.YtmmlefbokplnnaaGreatDoor.Base Go.Proofs.YtmmlefbokplnnaaGreatDoor.Map

theorem Parts.with {w : World} {G G' : DiskG} (h : Parts w G) (h1 : G'.gc = G.gc) (h2 : G'.gd = G.gd) (h3 : G'.ptr = G.ptr) (h4 : G'.pfs = G.pfs) (h5 : G'.bvs = G.bvs) (h6 : G'.svs = G.svs) (h7 : G'.steps = G.steps) (h8 : G'.nv = G.nv) : Parts w G' := by
  cases G; cases G'
  simp only at h1 h2 h3 h4 h5 h6 h7 h8
  subst h1 h2 h3 h4 h5 h6 h7 h8
  exact ⟨h.cur, h.dur, h.trees, h.row, h.steps, h.files, h.inj, h.bytes, h.rows⟩

theorem Parts.ticked {w : World} {G : DiskG} (h : Parts w G) : Parts w (ticked G) := by
  unfold Disk.ticked; split <;> exact h.with rfl rfl rfl rfl rfl rfl rfl rfl

/-- the current tree was written -/
theorem DiskAt.wrote {w w' : World} {D : Nat} {G : DiskG} {g' : TreeG} (h : DiskAt w D G) (hw : Wrote w w' G.ptr D 0 G.cells 63 G.gc g') : DiskAt w' D { G with gc := g' } := by
  obtain ⟨n1, n2, n3, n4, n5⟩ := h.parts.notD h.kind
  have hgd : ∀ b ∈ G.gd.blocks, ¬ (b = D ∨ b ∈ G.gc.blocks) := fun b hb hh => by
    rcases hh with hh | hh
    · exact n2 b hb hh
    · exact h.parts.trees b hh hb
  refine ⟨?_, ⟨hw.tree, h.parts.dur.of_heap fun b hb => hw.turn.block b (h.parts.dur.lt b hb) (hgd b hb), fun b hb hb2 => ?_, ?_, fun x hx => ?_, fun i hi => ?_, h.parts.inj, h.parts.bytes, h.parts.rows⟩⟩
  · rw [hw.holds]; rfl
  · rcases hw.new b hb with h1 | h1
    · exact h.parts.trees b h1 hb2
    · have := h.parts.dur.lt b hb2; omega
  · refine row_turn h.parts.row hw.turn fun k hk hh => ?_
    rcases hh with hh | hh
    · exact n3 k hk hh
    · exact (row_kind h.parts.row hk).noMap (h.parts.cur.maps k hh)
  · refine (h.parts.steps x hx).of_heap fun b hb => hw.turn.block b ((h.parts.steps x hx).lt b hb) fun hh => ?_
    rcases hh with hh | hh
    · exact n4 x hx b hb hh
    · rcases (h.parts.steps x hx).kinds b hb with h1 | h1 <;> exact h1.noMap (h.parts.cur.maps b hh)
  · refine (h.parts.files i hi).turn hw.turn fun k hk hh => ?_
    rcases hh with hh | hh
    · exact n5 i hi k hk hh
    · rcases (h.parts.files i hi).kinds hk with h1 | h1 | h1 <;> exact h1.noMap (h.parts.cur.maps k hh)

theorem step_info1 : (Tryz.prog.info? 126).map (fun i => (i.zero, i.size, i.bytes)) = some (some (.agg #[.nilFunc]), 1, 8) := by kernel_rfl

/-- a names step is kept -/
theorem append_name (w : World) (nv : Value) (xs : List Value) (n : Nat) (hown : w.ownsRow 0 126 1 nv n xs) (v : Value) (h1 : v.oneCell' = true) (b : Nat) (hb : w.heap[b]? = some (.cells #[v] 126)) (hl : n < 1099511627776) :
    ∃ v' w', (Builtin.append_ #[61, 61] 61 #[nv, .slice (some ⟨b, 0, none⟩) 1 1]).run Tryz.prog w = .ok v' w' ∧ w'.ownsRow 0 126 1 v' (n + 1) (xs ++ [v]) ∧ w.grownBy w' nv.ownBlock ∧ (v'.ownBlock = nv.ownBlock ∨ v'.ownBlock = some w.heap.size) := by
  obtain ⟨i0, hi, hz0, hz1, hz2⟩ := info_parts step_info1
  have hsrc : Src Tryz.prog 1 61 (.slice (some ⟨b, 0, none⟩) 1 1) 1 [v] w := by
    refine Src.ofSlice w Tryz.underlying61 _ 1 1 _ rfl ?_ ?_
    · intro j u hu
      rw [Go.WideShapes.add_plain, cell_of_row w b _ _ _ _ hb]
      simpa using hu
    · intro u hu
      simp at hu; subst hu; exact h1
  obtain ⟨v', w', h1, h2, h3, h4⟩ := Row.append_src (P := Tryz.prog) w 61 61 61 126 i0 _ 1 8 Tryz.underlying61 hi hz0 hz1 hz2 rfl (by decide) nv n _ hown _ 1 _ hsrc (by unfold maxLen; omega) (by omega)
  exact ⟨v', w', h1, h2, h3, h4⟩

/-- the names' row was written, and stored -/
theorem DiskAt.named {w w' : World} {D : Nat} {G : DiskG} (h : DiskAt w D G) {x : StepG} {nv' : Value} (ht : Turn (fun k => G.nv.ownBlock = some k) w w') (hr : w'.ownsRow 0 126 1 nv' (G.steps.length + 1) (G.steps.map (·.v) ++ [x.v])) (hx : StepAt w G.ptr x.v x.bs x.s)
 : DiskAt (w'.setCell ⟨D, 2, none⟩ nv') D { G with steps := G.steps ++ [x], nv := nv' } ∧ w'.cell? ⟨D, 2, none⟩ = some G.nv ∧ w'.frozen? ⟨D, 2, none⟩ = false := by
  obtain ⟨n1, n2, n3, n4, n5⟩ := h.parts.notD h.kind
  have hD : w'.heap[D]? = w.heap[D]? := ht.block D h.lt fun hh => n3 D hh rfl
  have hc : w'.heap[D]? = some (.cells G.cells 63) := hD.trans h.block
  have hkD : isK w' D 63 := ⟨_, _, hc⟩
  have hxk : ∀ b ∈ x.bs, ¬ G.nv.ownBlock = some b := fun b hb hh => by
    rcases hx.kinds b hb with h1 | h1 <;> exact h1.ne (row_kind h.parts.row hh) (by decide) rfl
  have hp : Parts w' { G with steps := G.steps ++ [x], nv := nv' } := by
    refine ⟨h.parts.cur.of_heap fun b hb => ht.block b (h.parts.cur.lt b hb) fun hh => (row_kind h.parts.row hh).noMap (h.parts.cur.maps b hb), h.parts.dur.of_heap fun b hb => ht.block b (h.parts.dur.lt b hb) fun hh => (row_kind h.parts.row hh).noMap (h.parts.dur.maps b hb), h.parts.trees, ?_, ?_, fun i hi => ?_, h.parts.inj, h.parts.bytes, h.parts.rows⟩
    · simp only [List.length_append, List.length_cons, List.length_nil, List.map_append, List.map_cons, List.map_nil]
      exact hr
    · intro y hy
      rcases List.mem_append.1 hy with hy | hy
      · refine (h.parts.steps y hy).of_heap fun b hb => ht.block b ((h.parts.steps y hy).lt b hb) fun hh => ?_
        rcases (h.parts.steps y hy).kinds b hb with h1 | h1 <;> exact h1.ne (row_kind h.parts.row hh) (by decide) rfl
      · simp at hy
        subst hy
        exact hx.of_heap fun b hb => ht.block b (hx.lt b hb) (hxk b hb)
    · refine (h.parts.files i hi).turn ht fun k hk hh => ?_
      rcases (h.parts.files i hi).kinds hk with h1 | h1 | h1 <;> exact h1.ne (row_kind h.parts.row hh) (by decide) rfl
  refine ⟨⟨?_, hp.set hkD 2 nv'⟩, ?_, ?_⟩
  · rw [heap_setCell_same w' D 2 G.cells _ nv' hc]; rfl
  · rw [World.cell?_of_block (w := w) hD]; exact h.cell 2
  · rw [World.frozen?_of_block (w := w) hD]; exact h.fro 2

/-- a disk behind a names step -/
structure Changed (w w' : World) (D : Nat) (G : DiskG) (s : NStep) (G' : DiskG) : Prop where
  disk : DiskAt w' D G'
  turn : Turn (G.own D) w w'
  tree : Applied s G.gc G'.gc
  step : ∃ v bs, G'.steps = G.steps ++ [⟨s, v, bs⟩]
  rest : G'.gd = G.gd ∧ G'.ptr = G.ptr ∧ G'.pfs = G.pfs ∧ G'.bvs = G.bvs ∧ G'.svs = G.svs ∧ G'.cap = G.cap ∧ G'.used = G.used ∧ G'.off = G.off ∧ G'.crash = G.crash - 1
  new : ∀ k, G'.own D k → G.own D k ∨ w.heap.size ≤ k

theorem PutTo.blocks {w : World} {ptr : Nat → Nat} {tb to' : Nat} {cs : Array Value} {e : TypeId} {w' : World} {g g' : TreeG} (h : Wrote w w' ptr tb to' cs e g g') : ∀ b ∈ g'.blocks, b ∈ g.blocks ∨ w.heap.size ≤ b := h.new

set_option maxRecDepth 100000 in
set_option maxHeartbeats 2000000 in
theorem change_any {w : World} {D : Nat} {G : DiskG} {E : Nat → Addr} (h : DiskAt w D G) (he : Env w E) (hc : G.crash < 9223372036854775808) (hown : ∀ k, k < 8 → ¬ G.own D k) (hlen : G.steps.length < 1099511627776)
    {v : Value} {bs : List Nat} {s : NStep} (hs : StepAt w G.ptr v bs s) (hf : Fits s G.gc) (hbs : ∀ b ∈ bs, b ≠ D ∧ b ∉ G.gc.blocks) :
    Calls Tryz.prog 94 #[.pointer (some ⟨D, 0, none⟩), v] w fun r w' =>
      (G.crash = 1 ∧ r = .returned (errV E 1) ∧ DiskAt w' D { G with off := true } ∧ Turn (fun k => k = D) w w') ∨
      (G.crash ≠ 1 ∧ r = .returned (errV E 0) ∧ ∃ G', DiskAt w' D G' ∧ Turn (G.own D) w w' ∧ Applied s G.gc G'.gc ∧ G'.steps = G.steps ++ [⟨s, v, bs⟩] ∧
        (G'.gd = G.gd ∧ G'.ptr = G.ptr ∧ G'.pfs = G.pfs ∧ G'.bvs = G.bvs ∧ G'.svs = G.svs ∧ G'.cap = G.cap ∧ G'.used = G.used ∧ G'.off = G.off ∧ G'.crash = G.crash - 1) ∧
        (∀ b ∈ G'.gc.blocks, b ∈ G.gc.blocks ∨ w.heap.size ≤ b) ∧ (G'.nv.ownBlock = G.nv.ownBlock ∨ ∃ k, G'.nv.ownBlock = some k ∧ w.heap.size ≤ k)) := by
  have hst := step_any h he hc
  have HD := Lib.hid h
  have HE := Lib.hid he
  by_cases h1 : G.crash = 1
  · have hst1 : Calls Tryz.prog 97 #[.pointer (some ⟨D, 0, none⟩)] w fun e w' => e = .returned (errV E 1) ∧ DiskAt w' D { G with off := true } ∧ Turn (fun k => k = D) w w' := by
      refine hst.mono fun e w' hh => ?_
      unfold stepCode ticked at hh
      rw [if_pos h1, if_pos h1] at hh
      exact hh
    unfold errV at hst1 ⊢
    have H1 := Lib.hid h1
    have HS := Lib.hid hst1
    have hvv : ∃ gf lb, v = .func (.func gf) #[] lb := by
      obtain ⟨gf, lb, hv, _⟩ := step_applies hs h.parts.cur D 0 G.cells 63 ⟨h.block, rfl⟩ hf he.max (fun e => hown gMax (by decide) (.inl e.symm))
      exact ⟨gf, lb, hv⟩
    obtain ⟨gf, lb, rfl⟩ := hvv
    clear h he hc hst hst1 h1 hs hf
    go_enter Tryz.func94, Tryz.ntmps94
    go_wp2_with (go_at_call 97; ((with_reducible refine HS.out.mono ?_); rintro r w2 ⟨rfl, hd2, ht2⟩))
    go_ret
    exact .inl ⟨H1.out, rfl, hd2, ht2⟩
  · have hst1 : Calls Tryz.prog 97 #[.pointer (some ⟨D, 0, none⟩)] w fun e w' => e = .returned .nilIface ∧ DiskAt w' D { G with crash := G.crash - 1 } ∧ Turn (fun k => k = D) w w' := by
      refine hst.mono fun e w' hh => ?_
      unfold stepCode ticked at hh
      rw [if_neg h1, if_neg h1] at hh
      exact hh
    have H1 := Lib.hid h1
    have HS := Lib.hid hst1
    have HF := Lib.hid hf
    -- the closure, whatever the step has left
    have hcl : ∀ w2, DiskAt w2 D { G with crash := G.crash - 1 } → Turn (fun k => k = D) w w2 → ∃ gf lb, v = .func (.func gf) #[] lb ∧ (∀ args w, (callFunc gf args).run Tryz.prog w = .ok (.enter gf args) w) ∧
        Calls Tryz.prog gf (#[.pointer (some ⟨D, 0, none⟩)] ++ lb) w2 fun r w' => r = .returned (.tuple #[]) ∧ ∃ g', Applied s G.gc g' ∧ Wrote w2 w' G.ptr D 0 (DiskG.cells { G with crash := G.crash - 1 }) 63 G.gc g' := fun w2 hd2 ht2 =>
      step_applies (hs.of_heap fun b hb => ht2.block b (hs.lt b hb) (hbs b hb).1) hd2.parts.cur D 0 _ 63 ⟨hd2.block, rfl⟩ hf (he.turn ht2 (fun k hk hh => hown k hk (.inl hh))).max (fun e => hown gMax (by decide) (.inl e.symm))
    have hvv : ∃ gf lb, v = .func (.func gf) #[] lb ∧ (∀ args w, (callFunc gf args).run Tryz.prog w = .ok (.enter gf args) w) := by
      obtain ⟨gf, lb, hv, hen, _⟩ := step_applies hs h.parts.cur D 0 G.cells 63 ⟨h.block, rfl⟩ hf he.max (fun e => hown gMax (by decide) (.inl e.symm))
      exact ⟨gf, lb, hv, hen⟩
    obtain ⟨gf, lb, rfl, hen⟩ := hvv
    have hcl2 : ∀ w2, DiskAt w2 D { G with crash := G.crash - 1 } → Turn (fun k => k = D) w w2 → Calls Tryz.prog gf (#[.pointer (some ⟨D, 0, none⟩)] ++ lb) w2 fun r w' => r = .returned (.tuple #[]) ∧ ∃ g', Applied s G.gc g' ∧ Wrote w2 w' G.ptr D 0 (DiskG.cells { G with crash := G.crash - 1 }) 63 G.gc g' := fun w2 hd2 ht2 => by
      obtain ⟨gf', lb', hv, _, hc'⟩ := hcl w2 hd2 ht2
      injection hv with hv1 hv2 hv3
      injection hv1 with hv1
      subst hv1 hv3
      exact hc'
    have HCL := Lib.hid hcl2
    have HSt := Lib.hid hs
    have HBS := Lib.hid hbs
    clear h he hc hst hst1 h1 hs hf hcl hcl2 hbs
    unfold errV
    go_enter Tryz.func94, Tryz.ntmps94
    go_wp2_with (first
      | (go_at_call 97; ((with_reducible refine HS.out.mono ?_); rintro r w2 ⟨rfl, hd2, ht2⟩))
      | (go_at_fn gf; ((with_reducible refine (HCL.out _ hd2 ht2).mono ?_); rintro r w3 ⟨rfl, g', hap, hw3⟩; have hd3 := hd2.wrote hw3; have k2 : w3.cell? ⟨D, 2, none⟩ = some G.nv := hd3.cell 2; have hda := hd3.below (below_alloc w3 (.cells #[.func (.func gf) #[] lb] 126)); obtain ⟨v', w4, hrun, hrow, hg, hloc⟩ := append_name (w3.alloc (.cells #[.func (.func gf) #[] lb] 126)) G.nv _ G.steps.length hda.parts.row (.func (.func gf) #[] lb) rfl w3.heap.size (heap_alloc_new _ _) hlen; have hsa : StepAt (w3.alloc (.cells #[.func (.func gf) #[] lb] 126)) G.ptr (.func (.func gf) #[] lb) bs s := HSt.out.of_heap (fun b hb => by (have hlt := HSt.out.lt b hb; have hlt2 := ht2.size; have hlt3 := hw3.turn.size; rw [heap_alloc_old _ _ (by omega), hw3.turn.block b (by omega) (fun hh => by rcases hh with hh | hh; exact (HBS.out b hb).1 hh; exact (HBS.out b hb).2 hh), ht2.block b hlt (HBS.out b hb).1])); obtain ⟨e1, e2, e3⟩ := hda.named (x := ⟨s, .func (.func gf) #[] lb, bs⟩) (Turn.of_grown hg (fun k hk => hk)) hrow hsa; obtain ⟨va, vc, rfl, _⟩ := row_len hrow; have HRun := Lib.hid hrun; have HE1 := Lib.hid e1; have HG := Lib.hid hg; have HW3 := Lib.hid hw3; have HT2 := Lib.hid ht2; have HDA := Lib.hid hda; clear hrun e1 hg hda hsa hrow hd3 hw3))
      | (at_builtin; refine Row.append_by rfl (.tmp 20) (.tmp 23) _ rfl _ _ rfl rfl HRun.out ?_))
    go_ret
    have hs2 := HT2.out.size
    have hs3 := HW3.out.turn.size
    refine .inr ⟨H1.out, rfl, _, HE1.out, ?_, hap, rfl, ⟨rfl, rfl, rfl, rfl, rfl, rfl, rfl, rfl, rfl⟩, ?_, ?_⟩
    · have t1 : Turn (G.own D) w w2 := HT2.out.mono (fun i _ hh => .inl hh)
      have t2 : Turn (G.own D) w2 w3 := HW3.out.turn.mono (fun i _ hh => by rcases hh with hh | hh; exact .inl hh; exact .inr (.inl hh))
      have t3 : Turn (G.own D) w3 (w3.alloc (.cells #[.func (.func gf) #[] lb] 126)) := (Turn.refl _ _).alloc _
      have t4 : Turn (G.own D) (w3.alloc (.cells #[.func (.func gf) #[] lb] 126)) w4 := Turn.of_grown HG.out (fun k hk => .inr (.inr (.inr (.inl hk))))
      exact (((t1.trans t2 (fun _ _ h => h)).trans t3 (fun _ _ h => h)).trans t4 (fun _ _ h => h)).set _ _ (fun _ => .inl rfl)
    · intro b hb
      rcases HW3.out.new b hb with h | h
      · exact .inl h
      · exact .inr (by omega)
    · rcases hloc with h | h
      · exact .inl h
      · refine .inr ⟨_, h, ?_⟩
        simp
        omega

end Go.Proofs.YtmmlefbokplnnaaGreatDoor.Disk

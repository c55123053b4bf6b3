/-
  The texts DMove, DStep, joined. Own text.
-/
import Derived.Test.YtmmlefbokplnnaaGreatDoorJ10
set_option linter.unusedVariables false
set_option linter.unusedSimpArgs false
namespace Go.Proofs.YtmmlefbokplnnaaGreatDoor.Disk
open Go.RowKit Go Go.Proofs.YtmmlefbokplnnaaGreatDoor.Base Go.Proofs.YtmmlefbokplnnaaGreatDoor.Map

/-- an item is dropped -/
def dropDs (ds : List DirG) (p : ByteArray) : List DirG :=
  (ds.filter fun y => decide (y.name ≠ p)).map fun y => if y.name = dirOf p then ⟨y.name, y.blk, del y.files (baseOf p)⟩ else y
def DropTo (g g' : TreeG) (p : ByteArray) : Prop := g' = ⟨g.fm, dropDs g.ds p⟩

theorem mem_dropDs {ds : List DirG} {p : ByteArray} {x : DirG} : x ∈ dropDs ds p ↔ ∃ y ∈ ds, y.name ≠ p ∧ x = (if y.name = dirOf p then ⟨y.name, y.blk, del y.files (baseOf p)⟩ else y) := by
  unfold dropDs
  rw [List.mem_map]
  constructor
  · rintro ⟨y, hy, rfl⟩
    rw [List.mem_filter, decide_eq_true_eq] at hy
    exact ⟨y, hy.1, hy.2, rfl⟩
  · rintro ⟨y, h1, h2, rfl⟩
    exact ⟨y, by rw [List.mem_filter, decide_eq_true_eq]; exact ⟨h1, h2⟩, rfl⟩

theorem names_dropDs (ds : List DirG) (p : ByteArray) : (dropDs ds p).map (·.name) = (ds.map (·.name)).filter fun e => decide (e ≠ p) := by
  unfold dropDs
  rw [List.map_map, List.filter_map]
  apply List.map_congr_left
  intro y _
  simp only [Function.comp]
  split <;> rfl
theorem blks_dropDs (ds : List DirG) (p : ByteArray) : (dropDs ds p).map (·.blk) = (ds.filter fun y => decide (y.name ≠ p)).map (·.blk) := by
  unfold dropDs
  rw [List.map_map]
  apply List.map_congr_left
  intro y _
  simp only [Function.comp]
  split <;> rfl

/-- an item is moved -/
def MoveTo (g g' : TreeG) (a b : ByteArray) : Prop :=
  (∃ x, lookDir g a = some x ∧ DropTo ⟨g.fm, g.ds ++ [⟨b, x.blk, x.files⟩]⟩ g' a) ∨ (lookDir g a = none ∧ ∃ i gm, fileOf g a = some i ∧ PutTo g gm (dirOf b) (baseOf b) i ∧ DropTo gm g' a)

def MoveFits (g : TreeG) (a b : ByteArray) : Prop := (∀ x, lookDir g a = some x → lookDir g b = none) ∧ (lookDir g a = none → ∃ i, fileOf g a = some i)

theorem del_dirs (ds : List DirG) (p : ByteArray) : del (dirEnts ds) p = dirEnts (ds.filter fun y => decide (y.name ≠ p)) := by
  unfold del dirEnts
  rw [List.filter_map]
  rfl
theorem del_files (ptr : Nat → Nat) (fs : List (ByteArray × Nat)) (n : ByteArray) : del (fileEnts ptr fs) n = fileEnts ptr (del fs n) := by
  unfold del fileEnts
  rw [List.filter_map]
  rfl

section
variable {P : Program} (w : World) {ops : Array Oper} {rest : List Oper} {o : Oper} {a : Act} {Q : Exit → Act → World → Prop} {b : Nat} {l : List (ByteArray × Value)} {T K E kt : TypeId}
theorem wp_del (hg : o.guard = none) (m x : Operand) (hop : o.op = .call { callee := .builtin .delete, args := #[m, x], argTypes := #[T, kt] }) (hT : P.underlying T = some (.map K E)) (hK : P.underlying K = some .string)
    (hm : a.eval m = .map (some b)) (h : MapIs w b l) (k : ByteArray) (hx : a.eval x = .string k)
    (next : ∀ w', MapIs w' b (del l k) → w.grownBy w' (some b) → w'.heap.size = w.heap.size → wpList P ops Q rest (a.put o.dst (.tuple #[])) w') : wpList P ops Q (o :: rest) a w := by
  refine wpList_plain hg fun K' hK' => ?_
  obtain ⟨w', hrun, r1, r2, r3⟩ := h.delete (E := E) hT hK o.type kt k
  unfold Oper.wp execOp
  simp only [hop, resolve, invoke, builtin, Sem.run_bind, Sem.run_pure, Result.andThen_ok, List.map_toArray, List.map_cons, List.map_nil, hm, hx, hrun]
  exact hK' _ _ (next w' r1 r2 r3)
theorem wp_delNil (hg : o.guard = none) (m x : Operand) (hop : o.op = .call { callee := .builtin .delete, args := #[m, x], argTypes := #[T, kt] }) (hT : P.underlying T = some (.map K E)) (hK : P.underlying K = some .string)
    (hm : a.eval m = .map none) (k : ByteArray) (hx : a.eval x = .string k)
    (next : wpList P ops Q rest (a.put o.dst (.tuple #[])) w) : wpList P ops Q (o :: rest) a w := by
  refine wpList_plain hg fun K' hK' => ?_
  have hrun := delete_nil (P := P) (E := E) hT hK o.type kt k w
  unfold Oper.wp execOp
  simp only [hop, resolve, invoke, builtin, Sem.run_bind, Sem.run_pure, Result.andThen_ok, List.map_toArray, List.map_cons, List.map_nil, hm, hx, hrun]
  exact hK' _ _ next
end

theorem blk_inj {ds : List DirG} (hn : (ds.map (·.blk)).Nodup) {x y : DirG} (hx : x ∈ ds) (hy : y ∈ ds) (h : x.blk = y.blk) : x = y := by
  induction ds with
  | nil => cases hx
  | cons z r ih =>
    simp only [List.map_cons, List.nodup_cons] at hn
    rcases List.mem_cons.1 hx with hx1 | hx1
    · rcases List.mem_cons.1 hy with hy1 | hy1
      · rw [hx1, hy1]
      · exact absurd (show z.blk ∈ r.map (fun x => x.blk) from List.mem_map.2 ⟨y, hy1, by rw [← hx1]; exact h.symm⟩) hn.1
    · rcases List.mem_cons.1 hy with hy1 | hy1
      · exact absurd (show z.blk ∈ r.map (fun x => x.blk) from List.mem_map.2 ⟨x, hx1, by rw [← hy1]; exact h⟩) hn.1
      · exact ih hn.2 hx1 hy1

theorem noCell {w : World} {b : Nat} {l : List (ByteArray × Value)} (h : MapIs w b l) {i : Nat} {v : Value} (hc : w.cell? ⟨b, i, none⟩ = some v) : False := by
  obtain ⟨es, cl, h1, _⟩ := h
  unfold World.cell? at hc
  simp [h1] at hc

theorem max_of_grown {w w' : World} {b : Nat} {l : List (ByteArray × Value)} (h : MapIs w b l) (hm : Max w) (hg : w.grownBy w' (some b)) : Max w' := by
  obtain ⟨m, hm⟩ := hm
  refine ⟨m, ?_⟩
  rw [World.cell?_of_block (w := w) (hg.block _ (World.block_lt_of_cell? w _ hm) (fun e => by injection e with e; exact noCell (e ▸ h) hm))]
  exact hm

theorem MapIs.drew {w : World} {b : Nat} {l : List (ByteArray × Value)} (h : MapIs w b l) (n : Nat) : MapIs (w.drewN n) b l := h.of_block rfl

theorem dropDs_none {ds : List DirG} {p : ByteArray} (h : lookDir ⟨none, ds.filter fun y => decide (y.name ≠ p)⟩ (dirOf p) = none) : dropDs ds p = ds.filter fun y => decide (y.name ≠ p) := by
  unfold dropDs
  conv => rhs; rw [← List.map_id (ds.filter fun y => decide (y.name ≠ p))]
  apply List.map_congr_left
  intro y hy
  rw [if_neg]
  · rfl
  · intro e
    have := List.find?_eq_none.1 h y hy
    simp [e] at this
theorem dropDs_some {ds : List DirG} {p : ByteArray} {fm : Option Nat} {x : DirG} (hn : ((ds.filter fun y => decide (y.name ≠ p)).map (·.name)).Nodup) (h : lookDir ⟨fm, ds.filter fun y => decide (y.name ≠ p)⟩ (dirOf p) = some x) :
    dropDs ds p = setFiles (ds.filter fun y => decide (y.name ≠ p)) (dirOf p) (del x.files (baseOf p)) := by
  unfold dropDs setFiles
  apply List.map_congr_left
  intro y hy
  by_cases e : y.name = dirOf p
  · rw [if_pos e, if_pos e]
    obtain ⟨h1, h2⟩ := lookDir_mem h
    have := name_inj hn hy h1 (by rw [e, h2])
    rw [this]
  · rw [if_neg e, if_neg e]

set_option maxRecDepth 100000 in
set_option maxHeartbeats 1000000 in
/-- the item of a path is deleted, in two maps -/
theorem drop_core {w : World} {ptr : Nat → Nat} {fm : Nat} {ds : List DirG} (tb to' : Nat) (hM : MapIs w fm (dirEnts ds)) (hc : w.cell? ⟨tb, to', none⟩ = some (.map (some fm))) (htb : tb ≠ fm) (p : ByteArray) (hp : p.size < 4294967281) (hmx : Max w)
    (hT : ∀ w1, MapIs w1 fm (dirEnts (ds.filter fun y => decide (y.name ≠ p))) → w.grownBy w1 (some fm) → TreeAt w1 ptr ⟨some fm, ds.filter fun y => decide (y.name ≠ p)⟩) :
    Calls Tryz.prog 106 #[.pointer (some ⟨tb, to', none⟩), .string p] w fun r w' => r = .returned (.tuple #[]) ∧ TreeAt w' ptr ⟨some fm, dropDs ds p⟩ ∧ Turn (fun k => k = fm ∨ k ∈ (ds.filter fun y => decide (y.name ≠ p)).map (·.blk)) w w' := by
  have hd := del_dirs ds p
  have hs := fun W => split_any p hp W
  have HT := Lib.hid hT
  have HM := Lib.hid hM
  have HMX := Lib.hid hmx
  have HD := Lib.hid hd
  have HS := Lib.hid hs
  have HTB := Lib.hid htb
  clear hM hT hmx hd hs hp htb
  obtain ⟨dl, hdl⟩ : ∃ dl, (ds.filter fun y => decide (y.name ≠ p)) = dl := ⟨_, rfl⟩
  have hnn : ∀ x, lookDir ⟨some fm, dl⟩ (dirOf p) = some x → (dl.map (·.name)).Nodup → dropDs ds p = setFiles dl (dirOf p) (del x.files (baseOf p)) := fun x hx hn => by
    rw [← hdl] at hx hn ⊢; exact dropDs_some hn hx
  have hno : lookDir ⟨none, dl⟩ (dirOf p) = none → dropDs ds p = dl := fun h => by rw [← hdl] at h ⊢; exact dropDs_none h
  rw [hdl] at HT HD ⊢
  have HNN := Lib.hid hnn
  have HNO := Lib.hid hno
  clear hnn hno hdl
  obtain ⟨dd, hdd⟩ : ∃ dd, dropDs ds p = dd := ⟨_, rfl⟩
  rw [hdd] at HNN HNO ⊢
  obtain ⟨e, he⟩ : ∃ e, dirOf p = e := ⟨_, rfl⟩
  obtain ⟨n, hn⟩ : ∃ n, baseOf p = n := ⟨_, rfl⟩
  rw [he, hn] at HS HNN
  rw [he] at HNO
  clear hdd he hn
  cases hl : lookDir ⟨some fm, dl⟩ e with
  | none =>
    have HL := Lib.hid hl
    clear hl
    go_enter Tryz.func106, Tryz.ntmps106
    go_wp2_with (first
      | (at_delete; refine wp_del _ rfl _ _ rfl Tryz.underlying58 Tryz.underlying9 rfl HM.out _ rfl ?_; intro w1 hm1 hg1 hs1; rw [HD.out] at hm1; have hm2 := max_of_grown HM.out HMX.out hg1; have ht1 := HT.out w1 hm1 hg1; have hc1 : w1.cell? ⟨tb, to', none⟩ = some (.map (some fm)) := (World.cell?_of_block (w := w) (hg1.block tb (World.block_lt_of_cell? w _ hc) (fun e => HTB.out (by injection e)))).trans hc; have l1 : ∀ q, (Instr.lookup 58 (.map (some fm)) (.string e) false).run Tryz.prog (w1.drewN q) = .ok (.map none) (w1.drewN q) := (fun q => by (have := look_dir (ht1.drew q) e; unfold dirV at this; rw [HL.out] at this; exact this)); have HT1 := Lib.hid ht1; have HG1 := Lib.hid hg1; have HM2 := Lib.hid hm2; clear hm1 ht1 hg1 hm2 hs1)
      | (go_at_call 83; refine (HS.out _ HM2.out).mono ?_; rintro r w2 ⟨rfl, q, rfl⟩)
      | (at_delete; refine wp_delNil _ rfl _ _ rfl Tryz.underlying128 Tryz.underlying9 rfl _ rfl ?_))

    go_end0
    have e1 : dd = dl := HNO.out (by have := HL.out; unfold lookDir at this ⊢; exact this)
    subst e1
    exact ⟨rfl, HT1.out.drew q, (Turn.of_grown HG1.out (fun k hk => by injection hk with hk; exact .inl hk.symm)).drew q⟩
  | some x =>
    obtain ⟨hxm, hxn⟩ := lookDir_mem hl
    have HL := Lib.hid hl
    clear hl
    go_enter Tryz.func106, Tryz.ntmps106
    go_wp2_with (first
      | (at_delete; refine wp_del _ rfl _ _ rfl Tryz.underlying58 Tryz.underlying9 rfl HM.out _ rfl ?_; intro w1 hm1 hg1 hs1; rw [HD.out] at hm1; have hm2 := max_of_grown HM.out HMX.out hg1; have ht1 := HT.out w1 hm1 hg1; have hc1 : w1.cell? ⟨tb, to', none⟩ = some (.map (some fm)) := (World.cell?_of_block (w := w) (hg1.block tb (World.block_lt_of_cell? w _ hc) (fun e => HTB.out (by injection e)))).trans hc; have l1 : ∀ q, (Instr.lookup 58 (.map (some fm)) (.string e) false).run Tryz.prog (w1.drewN q) = .ok (.map (some x.blk)) (w1.drewN q) := (fun q => by (have := look_dir (ht1.drew q) e; unfold dirV at this; rw [HL.out] at this; exact this)); have hx1 : ∀ q, MapIs (w1.drewN q) x.blk (fileEnts ptr x.files) := (fun q => (ht1.dirs x hxm).of_block rfl); have HX1 := Lib.hid hx1; have HT1 := Lib.hid ht1; have HG1 := Lib.hid hg1; have HM2 := Lib.hid hm2; clear hm1 ht1 hg1 hm2 hs1 hx1)
      | (go_at_call 83; refine (HS.out _ HM2.out).mono ?_; rintro r w2 ⟨rfl, q, rfl⟩)
      | (at_delete; refine wp_del _ rfl _ _ rfl Tryz.underlying128 Tryz.underlying9 rfl (HX1.out q) _ rfl ?_; intro w3 hm3 hg3 hs3; rw [del_files] at hm3))
    go_end0
    have ht := HT1.out
    have e1 : dd = setFiles dl e (del x.files n) := HNN.out x HL.out (names_nodup ht)
    subst e1
    have hg3' : w1.grownBy w3 (some x.blk) := ⟨hg3.os, hg3.tape, hg3.output, hg3.size, hg3.block⟩
    refine ⟨rfl, ht.setFiles HL.out hm3 hg3', ?_⟩
    have t1 : Turn (fun k => k = fm ∨ k ∈ dl.map (·.blk)) w w1 := Turn.of_grown HG1.out (fun k hk => by injection hk with hk; exact .inl hk.symm)
    exact (t1.trans (S' := fun k => k = x.blk) (Turn.of_grown hg3' (fun k hk => by injection hk with hk; exact hk.symm)) (fun i hi hh => by subst hh; exact .inr (List.mem_map.2 ⟨x, hxm, rfl⟩))).mono (fun i _ h => by simpa using h)

theorem blocks_some (fm : Nat) (ds : List DirG) : (⟨some fm, ds⟩ : TreeG).blocks = fm :: ds.map (·.blk) := rfl

/-- a tree whose map of directories lost a key -/
theorem TreeAt.lost {w w1 : World} {ptr : Nat → Nat} {fm : Nat} {ds : List DirG} (h : TreeAt w ptr ⟨some fm, ds⟩) (f : DirG → Bool) (hm : MapIs w1 fm (dirEnts (ds.filter f))) (hg : w.grownBy w1 (some fm)) : TreeAt w1 ptr ⟨some fm, ds.filter f⟩ := by
  have ha := h.apart
  rw [blocks_some, List.nodup_cons] at ha
  refine ⟨fun hh => (by cases hh), fun fm' hf => ?_, fun x hx => ?_, ?_⟩
  · injection hf with hf; subst hf; exact hm
  · have hx := (List.mem_filter.1 hx).1
    refine (h.dirs x hx).of_block (hg.block _ (h.dirs x hx).lt fun e => ?_)
    injection e with e
    exact ha.1 (by rw [← e]; exact List.mem_map.2 ⟨x, hx, rfl⟩)
  · rw [blocks_some, List.nodup_cons]
    refine ⟨fun hh => ?_, ?_⟩
    · obtain ⟨x, hx, hb⟩ := List.mem_map.1 hh
      exact ha.1 (List.mem_map.2 ⟨x, (List.mem_filter.1 hx).1, hb⟩)
    · exact List.Sublist.nodup ((List.filter_sublist (p := f) (l := ds)).map _) ha.2

theorem blks_drop_sub {ds : List DirG} {p : ByteArray} {k : Nat} (h : k ∈ (ds.filter fun y => decide (y.name ≠ p)).map (·.blk)) : k ∈ ds.map (·.blk) := by
  obtain ⟨x, hx, rfl⟩ := List.mem_map.1 h
  exact List.mem_map.2 ⟨x, (List.mem_filter.1 hx).1, rfl⟩

set_option maxRecDepth 100000 in
set_option maxHeartbeats 1000000 in
theorem drop_any {w : World} {ptr : Nat → Nat} {g : TreeG} (h : TreeAt w ptr g) (tb to' : Nat) (cs : Array Value) (e : TypeId) (hh : Holds w tb to' cs e g) (p : ByteArray) (hp : p.size < 4294967281) (hmx : Max w) :
    Calls Tryz.prog 106 #[.pointer (some ⟨tb, to', none⟩), .string p] w fun r w' => r = .returned (.tuple #[]) ∧ ∃ g', DropTo g g' p ∧ Wrote w w' ptr tb to' cs e g g' := by
  obtain ⟨fm, ds⟩ := g
  have hc := hh.cell
  have hni := hh.notIn h
  unfold topV at hc
  cases fm with
  | none =>
    have hds := h.none rfl
    simp only at hds
    subst hds
    have hs := fun n => split_any p hp (w.drewN n) (by obtain ⟨m, hm⟩ := hmx; exact ⟨m, hm⟩)
    have l1 : ∀ q, (Instr.lookup 58 (.map none) (.string (dirOf p)) false).run Tryz.prog (w.drewN q) = .ok (.map none) (w.drewN q) := fun q => lookup_nil Tryz.underlying58 Tryz.underlying9 zero_files (dirOf p) _
    have HH := Lib.hid hh
    have HT := Lib.hid h
    have HS := Lib.hid (split_any p hp w hmx)
    clear h hh hmx hp hs hni
    simp only at hc
    generalize dirOf p = d at l1 HS
    generalize baseOf p = n at HS
    go_enter Tryz.func106, Tryz.ntmps106
    go_wp2_with (first
      | (at_delete; refine wp_delNil _ rfl _ _ rfl Tryz.underlying58 Tryz.underlying9 rfl _ rfl ?_)
      | (go_at_call 83; refine HS.out.mono ?_; rintro r w2 ⟨rfl, q, rfl⟩)
      | (at_delete; refine wp_delNil _ rfl _ _ rfl Tryz.underlying128 Tryz.underlying9 rfl _ rfl ?_))
    go_end0
    refine ⟨rfl, ⟨none, []⟩, rfl, HT.out.drew q, ?_, (Turn.refl _ w).drew q, fun b hb => .inl hb⟩
    rw [set_same HH.out.at']
    exact HH.out.block
  | some fm =>
    rw [blocks_some] at hni
    have hcore := drop_core tb to' (h.top fm rfl) hc (fun e => hni (by rw [e]; exact List.mem_cons_self)) p hp hmx (fun w1 hm hg => h.lost _ hm hg)
    refine hcore.mono fun r w' ⟨h1, h2, h3⟩ => ⟨h1, _, rfl, h2, ?_, h3.mono (fun i _ hi => ?_), fun b hb => .inl ?_⟩
    · have hv : cs[to']? = some (topV ⟨some fm, dropDs ds p⟩) := hh.at'
      rw [set_same hv, h3.block tb hh.lt (fun hi => ?_)]
      · exact hh.block
      · rcases hi with hi | hi
        · exact hni (by rw [hi]; exact List.mem_cons_self)
        · exact hni (List.mem_cons_of_mem _ (blks_drop_sub hi))
    · rcases hi with hi | hi
      · exact .inr (by rw [blocks_some, hi]; exact List.mem_cons_self)
      · exact .inr (by rw [blocks_some]; exact List.mem_cons_of_mem _ (blks_drop_sub hi))
    · rw [blocks_some] at hb ⊢
      simp only at hb
      rcases List.mem_cons.1 hb with hb | hb
      · rw [hb]; exact List.mem_cons_self
      · rw [blks_dropDs] at hb
        exact List.mem_cons_of_mem _ (blks_drop_sub hb)

theorem Wrote.trans {w w1 w2 : World} {ptr : Nat → Nat} {tb to' : Nat} {cs : Array Value} {e : TypeId} {g g1 g2 : TreeG} (h : Wrote w w1 ptr tb to' cs e g g1) (k : Wrote w1 w2 ptr tb to' (cs.setIfInBounds to' (topV g1)) e g1 g2) : Wrote w w2 ptr tb to' cs e g g2 := by
  refine ⟨k.tree, ?_, h.turn.trans k.turn ?_, fun b hb => ?_⟩
  · rw [k.holds]
    congr 2
    apply Array.ext'
    rw [Array.toList_setIfInBounds, Array.toList_setIfInBounds, Array.toList_setIfInBounds, List.set_set]
  · rintro i hi (hh | hh)
    · exact .inl hh
    · rcases h.new i hh with h1 | h1
      · exact .inr h1
      · omega
  · rcases k.new b hb with h1 | h1
    · exact h.new b h1
    · have := h.turn.size; exact .inr (by omega)

theorem noCells {w : World} {b : Nat} {l : List (ByteArray × Value)} (h : MapIs w b l) {tb : Nat} {cs : Array Value} {e : TypeId} (hb : w.heap[tb]? = some (.cells cs e (0, 0))) : tb ≠ b := by
  rintro rfl
  obtain ⟨es, cl, h1, _⟩ := h
  rw [hb] at h1; cases h1

theorem max_of_wrote {w w' : World} {ptr : Nat → Nat} {tb to' : Nat} {cs : Array Value} {e : TypeId} {g g' : TreeG} (ht : TreeAt w ptr g) (h : Wrote w w' ptr tb to' cs e g g') (hm : Max w) (htb : tb ≠ gMax) : Max w' := by
  obtain ⟨m, hm⟩ := hm
  refine ⟨m, ?_⟩
  rw [World.cell?_of_block (w := w) (h.turn.block _ (World.block_lt_of_cell? w _ hm) (fun hh => ?_))]
  · exact hm
  · rcases hh with hh | hh
    · exact htb hh.symm
    · unfold TreeG.blocks at hh
      rcases List.mem_append.1 hh with hh | hh
      · cases hf : g.fm with
        | none => rw [hf] at hh; simp at hh
        | some fm =>
          rw [hf] at hh; simp at hh
          exact noCell (b := gMax) (by have := ht.top fm hf; rw [← hh] at this; exact this) hm
      · obtain ⟨x, hx, hb⟩ := List.mem_map.1 hh
        exact noCell (b := gMax) (by have := ht.dirs x hx; rw [hb] at this; exact this) hm

set_option maxRecDepth 100000 in
set_option maxHeartbeats 1000000 in
theorem move_any {w : World} {ptr : Nat → Nat} {g : TreeG} (h : TreeAt w ptr g) (tb to' : Nat) (cs : Array Value) (e : TypeId) (hh : Holds w tb to' cs e g) (a b : ByteArray) (ha : a.size < 4294967281) (hb : b.size < 4294967281) (hf : MoveFits g a b) (hmx : Max w) (htb : tb ≠ gMax) :
    Calls Tryz.prog 104 #[.pointer (some ⟨tb, to', none⟩), .string a, .string b] w fun r w' => r = .returned (.tuple #[]) ∧ ∃ g', MoveTo g g' a b ∧ Wrote w w' ptr tb to' cs e g g' := by
  have hq := fun (r : Option Nat) (w : World) => run_neq_map_nil (P := Tryz.prog) w 128 _ _ r Tryz.underlying128
  have hc := hh.cell
  have hni := hh.notIn h
  cases hl : lookDir g a with
  | some x =>
    obtain ⟨hxm, hxn⟩ := lookDir_mem hl
    have hlb := hf.1 x hl
    obtain ⟨fm, ds⟩ := g
    cases fm with
    | none => have := h.none rfl; simp only at this; subst this; cases hxm
    | some fm =>
      unfold topV at hc
      simp only at hc hxm
      rw [blocks_some] at hni
      have hnk : b ∉ keys (dirEnts ds) := notKey_of (g := ⟨some fm, ds⟩) hlb
      have hput : put (dirEnts ds) b (.map (some x.blk)) = dirEnts (ds ++ [⟨b, x.blk, x.files⟩]) := by
        rw [keys_put_new hnk, dirEnts_append]; rfl
      have hne : b ≠ a := fun e => by subst e; rw [hl] at hlb; cases hlb
      have hfil : (ds ++ [(⟨b, x.blk, x.files⟩ : DirG)]).filter (fun y => decide (y.name ≠ a)) = ds.filter (fun y => decide (y.name ≠ a)) ++ [(⟨b, x.blk, x.files⟩ : DirG)] := by
        rw [List.filter_append, List.filter_cons_of_pos (by simpa using hne)]; rfl
      have l1 : (Instr.lookup 58 (.map (some fm)) (.string a) false).run Tryz.prog w = .ok (.map (some x.blk)) w := by
        have := look_dir h a
        unfold dirV at this
        rw [hl] at this
        exact this
      have hdc : ∀ w1, MapIs w1 fm (dirEnts (ds ++ [⟨b, x.blk, x.files⟩])) → w.grownBy w1 (some fm) → Calls Tryz.prog 106 #[.pointer (some ⟨tb, to', none⟩), .string a] w1 fun r w' => r = .returned (.tuple #[]) ∧ TreeAt w' ptr ⟨some fm, dropDs (ds ++ [⟨b, x.blk, x.files⟩]) a⟩ ∧ Turn (fun k => k = fm ∨ k ∈ ds.map (·.blk)) w1 w' := fun w1 hm1 hg1 => by
        have hapart := h.apart
        rw [blocks_some, List.nodup_cons] at hapart
        have hc1 : w1.cell? ⟨tb, to', none⟩ = some (.map (some fm)) := (World.cell?_of_block (w := w) (hg1.block tb hh.lt (fun e => hni (by injection e with e; rw [e]; exact List.mem_cons_self)))).trans hc
        refine (drop_core (ptr := ptr) tb to' hm1 hc1 (fun e => hni (by rw [e]; exact List.mem_cons_self)) a ha (max_of_grown (h.top fm rfl) hmx hg1) (fun w2 hm2 hg2 => ?_)).mono fun r w' ⟨h1, h2, h3⟩ => ⟨h1, h2, h3.mono fun i _ hi => ?_⟩
        · rw [hfil] at hm2 ⊢
          have hold : ∀ y ∈ ds, MapIs w2 y.blk (fileEnts ptr y.files) := fun y hy => by
            have hyb : some y.blk ≠ some fm := fun e => by injection e with e; exact hapart.1 (by rw [← e]; exact List.mem_map.2 ⟨y, hy, rfl⟩)
            refine (h.dirs y hy).of_block ?_
            have l := (h.dirs y hy).lt
            have l2 := hg1.size
            rw [hg2.block _ (by omega) hyb, hg1.block _ l hyb]
          refine ⟨fun hh => (by cases hh), fun fm' hf => ?_, fun y hy => ?_, ?_⟩
          · injection hf with hf; subst hf; exact hm2
          · rcases List.mem_append.1 hy with hy | hy
            · exact hold y (List.mem_filter.1 hy).1
            · simp at hy; subst hy; exact hold x hxm
          · rw [blocks_some, List.nodup_cons, List.map_append, List.nodup_append]
            have hsub : ∀ k, k ∈ (ds.filter fun y => decide (y.name ≠ a)).map (·.blk) → k ∈ ds.map (·.blk) := fun k hk => blks_drop_sub hk
            refine ⟨fun hh => ?_, List.Sublist.nodup ((List.filter_sublist (l := ds)).map _) hapart.2, by simp, fun k hk k2 hk2 e => ?_⟩
            · rcases List.mem_append.1 hh with hh | hh
              · exact hapart.1 (hsub _ hh)
              · simp at hh; exact hapart.1 (by rw [hh]; exact List.mem_map.2 ⟨x, hxm, rfl⟩)
            · simp at hk2
              obtain ⟨y, hy, hyk⟩ := List.mem_map.1 hk
              have hy2 := List.mem_filter.1 hy
              -- two directories in one block
              have : y = x := by
                have hnd := hapart.2
                have hyx : y.blk = x.blk := by rw [hyk, e, hk2]
                exact blk_inj hnd hy2.1 hxm hyx
              subst this
              simp [hxn] at hy2
        · rcases hi with hi | hi
          · exact .inl hi
          · rw [hfil, List.map_append] at hi
            rcases List.mem_append.1 hi with hi | hi
            · exact .inr (blks_drop_sub hi)
            · simp at hi; exact .inr (by rw [hi]; exact List.mem_map.2 ⟨x, hxm, rfl⟩)
      have hM := h.top fm rfl
      have HM := Lib.hid hM
      have HDC := Lib.hid hdc
      have HP := Lib.hid hput
      have HH := Lib.hid hh
      have HL := Lib.hid hl
      have HNI := Lib.hid hni
      have HXM := Lib.hid hxm
      clear h hh hl hM hdc hput hmx hf hlb hnk hni hfil hne ha hb hxm
      go_enter Tryz.func104, Tryz.ntmps104
      go_wp2_with (first
        | (at_mapUpdate; go_loud (refine Map.wp_put _ rfl _ _ _ rfl Tryz.underlying58 Tryz.underlying9 rfl HM.out b (.map (some x.blk)) rfl rfl ?_; intro w3 hm3 hg3 hs3; simp only at hm3; rw [HP.out] at hm3))
        | (go_at_call 106; ((with_reducible refine (HDC.out _ hm3 hg3).mono ?_); rintro r w4 ⟨rfl, ht4, htn4⟩)))
      go_end0
      have hni := HNI.out
      have ht : Turn (fun k => k = fm ∨ k ∈ ds.map (·.blk)) w w4 := (Turn.of_grown hg3 (fun k hk => by injection hk with hk; exact .inl hk.symm)).trans htn4 (fun _ _ h => h)
      refine ⟨rfl, _, .inl ⟨x, HL.out, rfl⟩, ht4, ?_, ht.mono (fun i _ hi => ?_), fun q hq2 => .inl ?_⟩
      · have hv : cs[to']? = some (topV ⟨some fm, dropDs (ds ++ [⟨b, x.blk, x.files⟩]) a⟩) := HH.out.at'
        rw [set_same hv, ht.block tb HH.out.lt (fun hi => ?_)]
        · exact HH.out.block
        · rcases hi with hi | hi
          · exact hni (by rw [hi]; exact List.mem_cons_self)
          · exact hni (List.mem_cons_of_mem _ hi)
      · rcases hi with hi | hi
        · exact .inr (by rw [blocks_some, hi]; exact List.mem_cons_self)
        · exact .inr (by rw [blocks_some]; exact List.mem_cons_of_mem _ hi)
      · rw [blocks_some] at hq2 ⊢
        simp only at hq2
        rcases List.mem_cons.1 hq2 with hq2 | hq2
        · rw [hq2]; exact List.mem_cons_self
        · rw [blks_dropDs] at hq2
          have := blks_drop_sub hq2
          rw [List.map_append] at this
          rcases List.mem_append.1 this with this | this
          · exact List.mem_cons_of_mem _ this
          · simp at this; rw [this]; exact List.mem_cons_of_mem _ (List.mem_map.2 ⟨x, HXM.out, rfl⟩)
  | none =>
    obtain ⟨i, hi⟩ := hf.2 hl
    have l1 : (Instr.lookup 58 (topV g) (.string a) false).run Tryz.prog w = .ok (.map none) w := by
      have := look_dir h a
      unfold dirV at this
      rw [hl] at this
      exact this
    have c1 := file_any h tb to' hc a ha hmx
    rw [hi] at c1
    simp only [fileV, ptrV] at c1
    have c2 := fun n => put_any (h.drew n) tb to' cs e ⟨hh.block, hh.at'⟩ b hb i (by obtain ⟨m, hm⟩ := hmx; exact ⟨m, hm⟩ : Max (w.drewN n))
    simp only [ptrV] at c2
    have c3 : ∀ n w2 gm, Wrote (w.drewN n) w2 ptr tb to' cs e g gm → Calls Tryz.prog 106 #[.pointer (some ⟨tb, to', none⟩), .string a] w2 fun r w' => r = .returned (.tuple #[]) ∧ ∃ g', DropTo gm g' a ∧ Wrote w2 w' ptr tb to' (cs.setIfInBounds to' (topV gm)) e gm g' := fun n w2 gm hW =>
      drop_any hW.tree tb to' _ e (hW.out (set_lt hh.at')) a ha (max_of_wrote (h.drew n) hW (by obtain ⟨m, hm⟩ := hmx; exact ⟨m, hm⟩) htb)
    have HH := Lib.hid hh
    have HT := Lib.hid h
    have HL := Lib.hid hl
    have HI := Lib.hid hi
    have C1 := Lib.hid c1
    have C2 := Lib.hid c2
    have C3 := Lib.hid c3
    clear h hh hl hi c1 c2 c3 hmx hf ha hb hni
    generalize topV g = tv at hc l1
    go_enter Tryz.func104, Tryz.ntmps104
    go_wp2_with (first
      | (go_at_call 48; ((with_reducible refine C1.out.mono ?_); rintro r w2 ⟨rfl, n, rfl⟩))
      | (go_at_call 96; ((with_reducible refine (C2.out n).mono ?_); rintro r w3 ⟨rfl, gm, hp, hW⟩))
      | (go_at_call 106; ((with_reducible refine (C3.out n _ gm hW).mono ?_); rintro r w4 ⟨rfl, g', hd, hW2⟩)))
    go_end0
    have hW3 := hW.trans hW2
    exact ⟨rfl, g', .inr ⟨HL.out, i, gm, HI.out, hp, hd⟩, hW3.tree, hW3.holds, (Turn.of_drew n).trans hW3.turn (fun _ _ h => h), hW3.new⟩

end Go.Proofs.YtmmlefbokplnnaaGreatDoor.Disk

namespace Go.Proofs.YtmmlefbokplnnaaGreatDoor.Disk
open Go.RowKit Go Go.Proofs.YtmmlefbokplnnaaGreatDoor.Base Go.Proofs.YtmmlefbokplnnaaGreatDoor.Map

/-- what a names step makes of a tree -/
def Applied (s : NStep) (g g' : TreeG) : Prop :=
  (s.kind = 1 ∧ ∃ fm b, g' = ⟨some fm, g.ds ++ [⟨s.a, b, []⟩]⟩) ∨ (s.kind = 2 ∧ PutTo g g' (dirOf s.a) (baseOf s.a) s.num) ∨ (s.kind = 3 ∧ MoveTo g g' s.a s.b) ∨ (s.kind = 4 ∧ DropTo g g' s.a)

/-- what a names step asks of the tree that it works on -/
def Fits (s : NStep) (g : TreeG) : Prop :=
  (s.kind = 1 → lookDir g s.a = none) ∧ s.a.size < 4294967281 ∧ s.b.size < 4294967281 ∧ (s.kind = 3 → MoveFits g s.a s.b)

/-- a text in a box of its own -/
def BoxS (w : World) (B : Nat) (s : ByteArray) : Prop := w.heap[B]? = some (.cells #[.string s] 9)
def BoxP (w : World) (B : Nat) (v : Value) : Prop := w.heap[B]? = some (.cells #[v] 88)

def lbox (B : Nat) : Value := .pointer (some ⟨B, 0, none⟩)

/-- a names step in memory: the function, and the blocks of what it captured -/
def StepAt (w : World) (ptr : Nat → Nat) (v : Value) (bs : List Nat) (s : NStep) : Prop :=
  (∃ B, s.kind = 1 ∧ v = .func (.func 99) #[] #[lbox B] ∧ bs = [B] ∧ BoxS w B s.a) ∨
  (∃ B C, s.kind = 2 ∧ v = .func (.func 95) #[] #[lbox B, lbox C] ∧ bs = [B, C] ∧ BoxS w B s.a ∧ BoxP w C (ptrV ptr s.num)) ∨
  (∃ B C, s.kind = 3 ∧ v = .func (.func 103) #[] #[lbox B, lbox C] ∧ bs = [B, C] ∧ BoxS w B s.a ∧ BoxS w C s.b) ∨
  (∃ B, s.kind = 4 ∧ v = .func (.func 105) #[] #[lbox B] ∧ bs = [B] ∧ BoxS w B s.a)

theorem StepAt.of_heap {w w' : World} {ptr : Nat → Nat} {v : Value} {bs : List Nat} {s : NStep} (h : StepAt w ptr v bs s) (hh : ∀ b ∈ bs, w'.heap[b]? = w.heap[b]?) : StepAt w' ptr v bs s := by
  rcases h with ⟨B, h1, h2, rfl, h4⟩ | ⟨B, C, h1, h2, rfl, h4, h5⟩ | ⟨B, C, h1, h2, rfl, h4, h5⟩ | ⟨B, h1, h2, rfl, h4⟩
  · exact .inl ⟨B, h1, h2, rfl, (hh B (by simp)).trans h4⟩
  · exact .inr (.inl ⟨B, C, h1, h2, rfl, (hh B (by simp)).trans h4, (hh C (by simp)).trans h5⟩)
  · exact .inr (.inr (.inl ⟨B, C, h1, h2, rfl, (hh B (by simp)).trans h4, (hh C (by simp)).trans h5⟩))
  · exact .inr (.inr (.inr ⟨B, h1, h2, rfl, (hh B (by simp)).trans h4⟩))

theorem StepAt.lt {w : World} {ptr : Nat → Nat} {v : Value} {bs : List Nat} {s : NStep} (h : StepAt w ptr v bs s) : ∀ b ∈ bs, b < w.heap.size := by
  rcases h with ⟨B, h1, h2, rfl, h4⟩ | ⟨B, C, h1, h2, rfl, h4, h5⟩ | ⟨B, C, h1, h2, rfl, h4, h5⟩ | ⟨B, h1, h2, rfl, h4⟩
  · intro b hb; simp at hb; subst hb; exact (Array.getElem?_eq_some_iff.1 h4).1
  · intro b hb; simp at hb; rcases hb with rfl | rfl
    · exact (Array.getElem?_eq_some_iff.1 h4).1
    · exact (Array.getElem?_eq_some_iff.1 h5).1
  · intro b hb; simp at hb; rcases hb with rfl | rfl
    · exact (Array.getElem?_eq_some_iff.1 h4).1
    · exact (Array.getElem?_eq_some_iff.1 h5).1
  · intro b hb; simp at hb; subst hb; exact (Array.getElem?_eq_some_iff.1 h4).1

set_option maxHeartbeats 1000000 in
/-- A NAMES STEP IS MADE ON A TREE -/
theorem step_applies {w : World} {ptr : Nat → Nat} {v : Value} {bs : List Nat} {s : NStep} (hs : StepAt w ptr v bs s) {g : TreeG} (h : TreeAt w ptr g) (tb to' : Nat) (cs : Array Value) (e : TypeId) (hh : Holds w tb to' cs e g) (hf : Fits s g) (hm : Max w) (htb : tb ≠ gMax) :
    ∃ gf lb, v = .func (.func gf) #[] lb ∧ (∀ args w, (callFunc gf args).run Tryz.prog w = .ok (.enter gf args) w) ∧
      Calls Tryz.prog gf (#[.pointer (some ⟨tb, to', none⟩)] ++ lb) w fun r w' => r = .returned (.tuple #[]) ∧ ∃ g', Applied s g g' ∧ Wrote w w' ptr tb to' cs e g g' := by
  rcases hs with ⟨B, h1, rfl, rfl, h4⟩ | ⟨B, C, h1, rfl, rfl, h4, h5⟩ | ⟨B, C, h1, rfl, rfl, h4, h5⟩ | ⟨B, h1, rfl, rfl, h4⟩
  · refine ⟨_, _, rfl, enters_of Tryz.func99 (by kernel_rfl) rfl, ?_⟩
    have hc := addFolder_any h tb to' cs e hh s.a (hf.1 h1)
    have hb : w.cell? ⟨B, 0, none⟩ = some (.string s.a) := by rw [cell_of_row w B 0 _ _ _ h4]; rfl
    have HC := Lib.hid hc
    have H1 := Lib.hid h1
    clear h hh hf hm h4 hc h1
    unfold lbox
    go_enter Tryz.func99, Tryz.ntmps99
    go_wp2_with (go_at_call 100; ((with_reducible refine HC.out.mono ?_); rintro r w2 ⟨rfl, fm, b, hW⟩))
    go_end0
    exact ⟨rfl, _, .inl ⟨H1.out, fm, b, rfl⟩, hW⟩
  · refine ⟨_, _, rfl, enters_of Tryz.func95 (by kernel_rfl) rfl, ?_⟩
    have hc := put_any h tb to' cs e hh s.a hf.2.1 s.num hm
    have hb : w.cell? ⟨B, 0, none⟩ = some (.string s.a) := by rw [cell_of_row w B 0 _ _ _ h4]; rfl
    have hb2 : w.cell? ⟨C, 0, none⟩ = some (ptrV ptr s.num) := by rw [cell_of_row w C 0 _ _ _ h5]; rfl
    unfold ptrV at hb2
    unfold ptrV at hc
    have HC := Lib.hid hc
    have H1 := Lib.hid h1
    clear h hh hf hm h4 hc h5 h1
    unfold lbox
    go_enter Tryz.func95, Tryz.ntmps95
    go_wp2_with (go_at_call 96; ((with_reducible refine HC.out.mono ?_); rintro r w2 ⟨rfl, g', hp, hW⟩))
    go_end0
    exact ⟨rfl, _, .inr (.inl ⟨H1.out, hp⟩), hW⟩
  · refine ⟨_, _, rfl, enters_of Tryz.func103 (by kernel_rfl) rfl, ?_⟩
    have hc := move_any h tb to' cs e hh s.a s.b hf.2.1 hf.2.2.1 (hf.2.2.2 h1) hm htb
    have hb : w.cell? ⟨B, 0, none⟩ = some (.string s.a) := by rw [cell_of_row w B 0 _ _ _ h4]; rfl
    have hb2 : w.cell? ⟨C, 0, none⟩ = some (.string s.b) := by rw [cell_of_row w C 0 _ _ _ h5]; rfl
    have HC := Lib.hid hc
    have H1 := Lib.hid h1
    clear h hh hf hm h4 hc h5 h1
    unfold lbox
    go_enter Tryz.func103, Tryz.ntmps103
    go_wp2_with (go_at_call 104; ((with_reducible refine HC.out.mono ?_); rintro r w2 ⟨rfl, g', hp, hW⟩))
    go_end0
    exact ⟨rfl, _, .inr (.inr (.inl ⟨H1.out, hp⟩)), hW⟩
  · refine ⟨_, _, rfl, enters_of Tryz.func105 (by kernel_rfl) rfl, ?_⟩
    have hc := drop_any h tb to' cs e hh s.a hf.2.1 hm
    have hb : w.cell? ⟨B, 0, none⟩ = some (.string s.a) := by rw [cell_of_row w B 0 _ _ _ h4]; rfl
    have HC := Lib.hid hc
    have H1 := Lib.hid h1
    clear h hh hf hm h4 hc h1
    unfold lbox
    go_enter Tryz.func105, Tryz.ntmps105
    go_wp2_with (go_at_call 106; ((with_reducible refine HC.out.mono ?_); rintro r w2 ⟨rfl, g', hp, hW⟩))
    go_end0
    exact ⟨rfl, _, .inr (.inr (.inr ⟨H1.out, hp⟩)), hW⟩

end Go.Proofs.YtmmlefbokplnnaaGreatDoor.Disk

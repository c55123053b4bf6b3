/-
  The tree is written: directories and files are laid. Own text.
-/
import Derived.Test.YtanbmlikfhcpoaaDoorDTree
namespace Go.Proofs.YtanbmlikfhcpoaaDoor.Disk
open Go.RowKit Go Go.Proofs.YtanbmlikfhcpoaaDoor.Base Go.Proofs.YtanbmlikfhcpoaaDoor.Map

/-- the struct in which the tree lies -/
structure Holds (w : World) (tb to' : Nat) (cs : Array Value) (e : TypeId) (g : TreeG) : Prop where
  block : w.heap[tb]? = some (.cells cs e (0, 0))
  at' : cs[to']? = some (topV g)

theorem Holds.cell {w : World} {tb to' : Nat} {cs : Array Value} {e : TypeId} {g : TreeG} (h : Holds w tb to' cs e g) : w.cell? ⟨tb, to', none⟩ = some (topV g) := by
  rw [cell_of_row w tb to' cs e (0, 0) h.block]; exact h.at'
theorem Holds.fro {w : World} {tb to' : Nat} {cs : Array Value} {e : TypeId} {g : TreeG} (h : Holds w tb to' cs e g) : w.frozen? ⟨tb, to', none⟩ = false := by
  simp [World.frozen?, h.block]
theorem Holds.lt {w : World} {tb to' : Nat} {cs : Array Value} {e : TypeId} {g : TreeG} (h : Holds w tb to' cs e g) : tb < w.heap.size := (Array.getElem?_eq_some_iff.1 h.block).1
theorem Holds.notIn {w : World} {tb to' : Nat} {cs : Array Value} {e : TypeId} {g : TreeG} {ptr : Nat → Nat} (h : Holds w tb to' cs e g) (ht : TreeAt w ptr g) : tb ∉ g.blocks := by
  intro hb
  unfold TreeG.blocks at hb
  rcases List.mem_append.1 hb with hb | hb
  · cases hf : g.fm with
    | none => rw [hf] at hb; simp at hb
    | some fm =>
      rw [hf] at hb; simp at hb; subst hb
      obtain ⟨es, cl, h1, _⟩ := ht.top _ hf
      rw [h.block] at h1; cases h1
  · obtain ⟨x, hx, rfl⟩ := List.mem_map.1 hb
    obtain ⟨es, cl, h1, _⟩ := ht.dirs x hx
    rw [h.block] at h1; cases h1

theorem set_same {cs : Array Value} {i : Nat} {v : Value} (h : cs[i]? = some v) : cs.setIfInBounds i v = cs := by
  apply Array.ext'
  rw [Array.toList_setIfInBounds]
  apply List.ext_getElem?
  intro j
  rw [List.getElem?_set]
  by_cases hij : i = j
  · subst hij
    have h2 : cs.toList[i]? = some v := by simpa using h
    rw [if_pos rfl, h2]
    rw [if_pos]
    rcases Nat.lt_or_ge i cs.toList.length with h' | h'
    · exact h'
    · rw [List.getElem?_eq_none h'] at h2; cases h2
  · rw [if_neg hij]

theorem dirEnts_append (a b : List DirG) : dirEnts (a ++ b) = dirEnts a ++ dirEnts b := by simp [dirEnts]
theorem keys_dirEnts (ds : List DirG) : keys (dirEnts ds) = ds.map (·.name) := by simp [keys, dirEnts]

theorem notKey_of {g : TreeG} {d : ByteArray} (h : lookDir g d = none) : d ∉ keys (dirEnts g.ds) := by
  rw [keys_dirEnts]
  intro hm
  obtain ⟨x, hx, he⟩ := List.mem_map.1 hm
  have := List.find?_eq_none.1 h x hx
  simp [he] at this

/-- what a call that writes the tree leaves -/
structure Wrote (w w' : World) (ptr : Nat → Nat) (tb to' : Nat) (cs : Array Value) (e : TypeId) (g g' : TreeG) : Prop where
  tree : TreeAt w' ptr g'
  holds : w'.heap[tb]? = some (.cells (cs.setIfInBounds to' (topV g')) e (0, 0))
  turn : Turn (fun k => k = tb ∨ k ∈ g.blocks) w w'
  new : ∀ b ∈ g'.blocks, b ∈ g.blocks ∨ w.heap.size ≤ b

theorem Wrote.out {w w' : World} {ptr : Nat → Nat} {tb to' : Nat} {cs : Array Value} {e : TypeId} {g g' : TreeG} (h : Wrote w w' ptr tb to' cs e g g') (hl : to' < cs.size) : Holds w' tb to' (cs.setIfInBounds to' (topV g')) e g' :=
  ⟨h.holds, by simp [hl]⟩

theorem set_lt {cs : Array Value} {i : Nat} {v : Value} (h : cs[i]? = some v) : i < cs.size := (Array.getElem?_eq_some_iff.1 h).1

set_option maxRecDepth 100000 in
set_option maxHeartbeats 1000000 in
theorem addFolder_any {w : World} {ptr : Nat → Nat} {g : TreeG} (h : TreeAt w ptr g) (tb to' : Nat) (cs : Array Value) (e : TypeId) (hh : Holds w tb to' cs e g) (d : ByteArray) (hd : lookDir g d = none) :
    Calls Tryd.prog 36 #[.pointer (some ⟨tb, to', none⟩), .string d] w fun r w' => r = .returned (.tuple #[]) ∧ ∃ fm b, Wrote w w' ptr tb to' cs e g ⟨some fm, g.ds ++ [⟨d, b, []⟩]⟩ := by
  have hq := fun (r : Option Nat) (w : World) => run_eql_map_nil (P := Tryd.prog) w 41 _ _ r Tryd.underlying41
  have hmm := @run_makeMap Tryd.prog
  have hc := hh.cell
  have hf := hh.fro
  have hnk := notKey_of hd
  have hni := hh.notIn h
  have htl := hh.lt
  have hsl := set_lt hh.at'
  have HH := Lib.hid hh
  have HT := Lib.hid h
  cases hg : g.fm with
  | none =>
    have hds := h.none hg
    unfold topV at hc
    rw [hg] at hc
    have es : (w.setCell ⟨tb, to', none⟩ (.map (some w.heap.size))).heap.size = w.heap.size := by simp [World.setCell]
    have hM1 : MapIs (((w.setCell ⟨tb, to', none⟩ (.map (some w.heap.size))).alloc (.map #[] 0)).alloc (.map #[] 0)) w.heap.size [] := by
      have := mapIs_new (w.setCell ⟨tb, to', none⟩ (.map (some w.heap.size)))
      rw [es] at this
      exact this.of_block (heap_alloc_old _ _ (by simp [World.setCell]))
    have HM1 := Lib.hid hM1
    have Hhh := Lib.hid hh
    have Hds := Lib.hid hds
    have Hg := Lib.hid hg
    clear h hh hd hnk hM1 hds hg
    go_enter Tryd.func36, Tryd.ntmps36
    go_wp2_with (at_mapUpdate; refine Map.wp_put _ rfl _ _ _ rfl Tryd.underlying41 Tryd.underlying9 rfl HM1.out _ _ rfl rfl ?_; intro w3 hm3 hg3 hs3)
    go_end0
    have hsz : (((w.setCell ⟨tb, to', none⟩ (.map (some w.heap.size))).alloc (.map #[] 0)).alloc (.map #[] 0)).heap.size = w.heap.size + 2 := by simp [World.setCell]
    have hb1 : w3.heap[w.heap.size + 1]? = some (.map #[] 0) := by
      rw [hg3.block _ (by rw [hsz]; omega) (fun h => by injection h with h; omega)]
      have := heap_alloc_new ((w.setCell ⟨tb, to', none⟩ (.map (some w.heap.size))).alloc (.map #[] 0)) (.map #[] 0)
      simpa [World.setCell] using this
    refine ⟨rfl, w.heap.size, w.heap.size + 1, ?_, ?_, ?_, ?_⟩
    · refine ⟨fun hh => (by cases hh), fun fm hfm => ?_, fun x hx => ?_, ?_⟩
      · injection hfm with hfm
        subst hfm
        rw [Hds.out]
        simp only [List.nil_append, dirEnts, List.map_cons, List.map_nil]
        have hm3' : MapIs w3 w.heap.size (put [] d (.map (some (w.heap.size + 1)))) := hm3
        simpa [put] using hm3'
      · rw [Hds.out] at hx
        simp at hx
        subst hx
        exact ⟨#[], 0, hb1, MapKept.stamped_empty 0, rfl⟩
      · rw [Hds.out]
        simp [TreeG.blocks]
    · rw [hg3.block tb (by rw [hsz]; omega) (fun h => by injection h with h; omega)]
      rw [heap_alloc_old _ _ (by simp [World.setCell]; omega), heap_alloc_old _ _ (by rw [es]; exact htl)]
      exact heap_setCell_same _ tb to' cs e _ Hhh.out.block
    · have t1 : Turn (fun k => k = tb ∨ k ∈ g.blocks) w (((w.setCell ⟨tb, to', none⟩ (.map (some w.heap.size))).alloc (.map #[] 0)).alloc (.map #[] 0)) := (((Turn.refl _ w).set _ _ (fun _ => .inl rfl)).alloc _).alloc _
      exact t1.trans (S' := fun k => k = w.heap.size) (Turn.of_grown hg3 (fun k hk => by injection hk with hk; exact hk.symm)) (fun i hi hh => by omega)
    · intro b hb
      rw [Hds.out] at hb
      simp [TreeG.blocks] at hb
      omega
  | some fm =>
    have hM := h.top fm hg
    have hfm : fm ∈ g.blocks := by unfold TreeG.blocks; simp [hg]
    have hfl := h.lt fm hfm
    have htf : tb ≠ fm := fun e => hni (e ▸ hfm)
    unfold topV at hc
    rw [hg] at hc
    have hM1 : MapIs (w.alloc (.map #[] 0)) fm (dirEnts g.ds) := hM.of_block (heap_alloc_old w _ hfl)
    have HM1 := Lib.hid hM1
    have Hg := Lib.hid hg
    have Hnk := Lib.hid hnk
    clear h hh hd hnk hM1 hM hg
    go_enter Tryd.func36, Tryd.ntmps36
    go_wp2_with (at_mapUpdate; refine Map.wp_put _ rfl _ _ _ rfl Tryd.underlying41 Tryd.underlying9 rfl HM1.out _ _ rfl rfl ?_; intro w3 hm3 hg3 hs3)
    go_end0
    have hold : ∀ i, i < w.heap.size → i ≠ fm → w3.heap[i]? = w.heap[i]? := fun i hi hne => by
      rw [hg3.block i (by simp; omega) (fun h => hne (by injection h)), heap_alloc_old w _ hi]
    have hb1 : w3.heap[w.heap.size]? = some (.map #[] 0) := by
      rw [hg3.block _ (by simp) (fun h => by injection h with h; omega)]
      exact heap_alloc_new w _
    refine ⟨rfl, fm, w.heap.size, ?_, ?_, ?_, ?_⟩
    · refine ⟨fun hh => (by cases hh), fun fm' hfm' => ?_, fun x hx => ?_, ?_⟩
      · injection hfm' with hfm'
        subst hfm'
        rw [keys_put_new Hnk.out] at hm3
        show MapIs w3 fm (dirEnts (g.ds ++ [_]))
        rw [dirEnts_append]
        exact hm3
      · rcases List.mem_append.1 hx with hx | hx
        · have hxb : x.blk ∈ g.blocks := by unfold TreeG.blocks; simp; exact .inr ⟨x, hx, rfl⟩
          refine (HT.out.dirs x hx).of_block (hold _ (HT.out.lt _ hxb) ?_)
          intro e
          have ha := HT.out.apart
          unfold TreeG.blocks at ha
          rw [Hg.out] at ha
          simp only [Option.toList_some, List.singleton_append, List.nodup_cons] at ha
          exact ha.1 (by rw [← e]; exact List.mem_map.2 ⟨x, hx, rfl⟩)
        · simp at hx
          subst hx
          exact ⟨#[], 0, hb1, MapKept.stamped_empty 0, rfl⟩
      · have ha := HT.out.apart
        have hlt := HT.out.lt
        unfold TreeG.blocks at ha hlt ⊢
        rw [Hg.out] at ha hlt
        simp only [List.map_append, List.map_cons, List.map_nil]
        rw [← List.append_assoc, List.nodup_append]
        refine ⟨ha, by simp, fun a h1 b h2 => ?_⟩
        simp at h2
        subst h2
        have := hlt a h1
        omega
    · have hv : cs[to']? = some (topV ⟨some fm, g.ds ++ [⟨d, w.heap.size, []⟩]⟩) := by rw [HH.out.at']; unfold topV; rw [Hg.out]
      rw [set_same hv, hold tb htl htf]
      exact HH.out.block
    · refine (Turn.refl _ w).alloc (.map #[] 0) |>.trans (S' := fun k => k = fm) (Turn.of_grown hg3 (fun k hk => by injection hk with hk; exact hk.symm)) ?_
      intro i hi hh
      subst hh
      exact .inr hfm
    · intro b hb
      unfold TreeG.blocks at hb ⊢
      rw [Hg.out]
      simp only [List.map_append, List.map_cons, List.map_nil, Option.toList_some, List.mem_append, List.mem_singleton, List.mem_map] at hb ⊢
      rcases hb with hb | hb | hb
      · exact .inl (.inl hb)
      · exact .inl (.inr hb)
      · exact .inr (by omega)

end Go.Proofs.YtanbmlikfhcpoaaDoor.Disk

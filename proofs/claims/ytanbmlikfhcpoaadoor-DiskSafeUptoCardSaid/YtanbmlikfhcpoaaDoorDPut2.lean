/-
  The tree is written: a file gets its name. Own text.
-/
import Derived.Test.YtanbmlikfhcpoaaDoorDPut
namespace Go.Proofs.YtanbmlikfhcpoaaDoor.Disk
open Go.RowKit Go Go.Proofs.YtanbmlikfhcpoaaDoor.Base Go.Proofs.YtanbmlikfhcpoaaDoor.Map

def setFiles (ds : List DirG) (d : ByteArray) (fs : List (ByteArray × Nat)) : List DirG := ds.map fun y => if y.name = d then ⟨y.name, y.blk, fs⟩ else y

theorem dirEnts_set (ds : List DirG) (d : ByteArray) (fs : List (ByteArray × Nat)) : dirEnts (setFiles ds d fs) = dirEnts ds := by
  unfold dirEnts setFiles
  rw [List.map_map]
  apply List.map_congr_left
  intro y _
  simp only [Function.comp]
  split <;> rfl

theorem blks_set (ds : List DirG) (d : ByteArray) (fs : List (ByteArray × Nat)) : (setFiles ds d fs).map (·.blk) = ds.map (·.blk) := by
  unfold setFiles
  rw [List.map_map]
  apply List.map_congr_left
  intro y _
  simp only [Function.comp]
  split <;> rfl

theorem names_nodup {w : World} {ptr : Nat → Nat} {g : TreeG} (h : TreeAt w ptr g) : (g.ds.map (·.name)).Nodup := by
  cases hf : g.fm with
  | none => rw [h.none hf]; simp
  | some fm => have := (h.top fm hf).nodup; rwa [keys_dirEnts] at this

theorem lookDir_mem {g : TreeG} {d : ByteArray} {x : DirG} (h : lookDir g d = some x) : x ∈ g.ds ∧ x.name = d :=
  ⟨List.mem_of_find?_eq_some h, by have := List.find?_some h; simpa using this⟩

theorem name_inj {ds : List DirG} (hn : (ds.map (·.name)).Nodup) {x y : DirG} (hx : x ∈ ds) (hy : y ∈ ds) (h : x.name = y.name) : x = y := by
  induction ds with
  | nil => cases hx
  | cons z r ih =>
    simp only [List.map_cons, List.nodup_cons] at hn
    rcases List.mem_cons.1 hx with hx1 | hx1
    · rcases List.mem_cons.1 hy with hy1 | hy1
      · rw [hx1, hy1]
      · exact absurd (show z.name ∈ r.map (fun x => x.name) from List.mem_map.2 ⟨y, hy1, by rw [← hx1]; exact h.symm⟩) hn.1
    · rcases List.mem_cons.1 hy with hy1 | hy1
      · exact absurd (show z.name ∈ r.map (fun x => x.name) from List.mem_map.2 ⟨x, hx1, by rw [← hy1]; exact h⟩) hn.1
      · exact ih hn.2 hx1 hy1

/-- the files of one directory have turned -/
theorem TreeAt.setFiles {w w' : World} {ptr : Nat → Nat} {g : TreeG} (h : TreeAt w ptr g) {d : ByteArray} {x : DirG} (hx : lookDir g d = some x) {fs : List (ByteArray × Nat)} (hm : MapIs w' x.blk (fileEnts ptr fs)) (hg : w.grownBy w' (some x.blk)) :
    TreeAt w' ptr ⟨g.fm, setFiles g.ds d fs⟩ := by
  obtain ⟨hxm, hxn⟩ := lookDir_mem hx
  have ha := h.apart
  have hbl : (⟨g.fm, Disk.setFiles g.ds d fs⟩ : TreeG).blocks = g.blocks := by unfold TreeG.blocks; simp only; rw [blks_set]
  refine ⟨fun hf => ?_, fun fm hf => ?_, fun y hy => ?_, by rw [hbl]; exact ha⟩
  · have := h.none hf; rw [this] at hxm; cases hxm
  · show MapIs w' fm (dirEnts (Disk.setFiles g.ds d fs))
    rw [dirEnts_set]
    refine (h.top fm hf).of_block (hg.block fm (h.lt fm (by unfold TreeG.blocks; simp only at hf; simp [hf])) ?_)
    intro e
    injection e with e
    unfold TreeG.blocks at ha
    simp only at hf
    rw [hf] at ha
    simp only [Option.toList_some, List.singleton_append, List.nodup_cons] at ha
    exact ha.1 (by rw [e]; exact List.mem_map.2 ⟨x, hxm, rfl⟩)
  · unfold Disk.setFiles at hy
    obtain ⟨z, hz, rfl⟩ := List.mem_map.1 hy
    by_cases hzn : z.name = d
    · rw [if_pos hzn]
      have := name_inj (names_nodup h) hz hxm (by rw [hzn, hxn])
      subst this
      exact hm
    · rw [if_neg hzn]
      refine (h.dirs z hz).of_block (hg.block _ (h.dirs z hz).lt ?_)
      intro e
      injection e with e
      -- two directories in one block
      have hnd : (g.ds.map (·.blk)).Nodup := by unfold TreeG.blocks at ha; exact (List.nodup_append.1 ha).2.1
      have : z = x := by
        clear hy hm hg ha hbl
        have hzz := hz; have hxx := hxm
        revert hzz hxx hnd
        induction g.ds with
        | nil => intro _ h1; cases h1
        | cons q r ih =>
          intro hnd h1 h2
          simp only [List.map_cons, List.nodup_cons] at hnd
          rcases List.mem_cons.1 h1 with k1 | k1
          · rcases List.mem_cons.1 h2 with k2 | k2
            · rw [k1, k2]
            · exact absurd (show q.blk ∈ r.map (fun x => x.blk) from List.mem_map.2 ⟨x, k2, by rw [← k1]; exact e.symm⟩) hnd.1
          · rcases List.mem_cons.1 h2 with k2 | k2
            · exact absurd (show q.blk ∈ r.map (fun x => x.blk) from List.mem_map.2 ⟨z, k1, by rw [← k2]; exact e⟩) hnd.1
            · exact ih hnd.2 k1 k2
      exact hzn (by rw [this]; exact hxn)

theorem put_map (ptr : Nat → Nat) (fs : List (ByteArray × Nat)) (n : ByteArray) (i : Nat) : Map.put (fileEnts ptr fs) n (ptrV ptr i) = fileEnts ptr (Map.put fs n i) := by
  unfold fileEnts
  induction fs with
  | nil => rfl
  | cons p r ih =>
    simp only [List.map_cons, Map.put]
    split
    · rfl
    · rw [ih]; rfl

/-- where a file is put -/
def PutTo (g g' : TreeG) (d n : ByteArray) (i : Nat) : Prop :=
  ∃ gm : TreeG, ∃ x, ((gm = g) ∨ (lookDir g d = none ∧ ∃ fm b, gm = ⟨some fm, g.ds ++ [⟨d, b, []⟩]⟩)) ∧ lookDir gm d = some x ∧ g' = ⟨gm.fm, setFiles gm.ds d (Map.put x.files n i)⟩

theorem lookDir_new {g : TreeG} {d : ByteArray} (h : lookDir g d = none) (fm : Option Nat) (b : Nat) : lookDir ⟨fm, g.ds ++ [⟨d, b, []⟩]⟩ d = some ⟨d, b, []⟩ := by
  unfold lookDir at *
  simp only
  rw [List.find?_append, h]
  simp

set_option maxRecDepth 100000 in
set_option maxHeartbeats 1000000 in
theorem put_any {w : World} {ptr : Nat → Nat} {g : TreeG} (h : TreeAt w ptr g) (tb to' : Nat) (cs : Array Value) (e : TypeId) (hh : Holds w tb to' cs e g) (p : ByteArray) (hp : p.size < 4294967281) (i : Nat) (hmx : Max w) :
    Calls Tryd.prog 40 #[.pointer (some ⟨tb, to', none⟩), .string p, ptrV ptr i] w fun r w' => r = .returned (.tuple #[]) ∧ ∃ g', PutTo g g' (dirOf p) (baseOf p) i ∧ Wrote w w' ptr tb to' cs e g g' := by
  have hs := split_any p hp w hmx
  have hq := fun (r : Option Nat) (w : World) => run_eql_map_nil (P := Tryd.prog) w 75 _ _ r Tryd.underlying75
  have hq2 := fun (r : Option Nat) (w : World) => run_eql_map_nil (P := Tryd.prog) w 75 _ _ r Tryd.underlying75
  generalize dirOf p = d at hs ⊢
  generalize baseOf p = b at hs ⊢
  have hc := hh.cell
  have hni := hh.notIn h
  have htl := hh.lt
  have hsl := set_lt hh.at'
  unfold ptrV
  cases hl : lookDir g d with
  | some x =>
    obtain ⟨hxm, hxn⟩ := lookDir_mem hl
    have hx := h.dirs x hxm
    have h1 : ∀ n, (Instr.lookup 41 (topV g) (.string d) false).run Tryd.prog (w.drewN n) = .ok (.map (some x.blk)) (w.drewN n) := fun n => by
      have := look_dir (h.drew n) d
      unfold dirV at this
      rw [hl] at this
      exact this
    have HX := Lib.hid hx
    have HH := Lib.hid hh
    have HT := Lib.hid h
    have HL := Lib.hid hl
    have hxb : x.blk ∈ g.blocks := by unfold TreeG.blocks; simp; exact .inr ⟨x, hxm, rfl⟩
    clear h hh hl hx hmx hp
    generalize topV g = tv at hc h1
    go_enter Tryd.func40, Tryd.ntmps40
    go_wp2_with (first
      | (go_at_call 45; refine hs.mono ?_; rintro r w2 ⟨rfl, n, rfl⟩)
      | (at_mapUpdate; refine Map.wp_put _ rfl _ _ _ rfl Tryd.underlying75 Tryd.underlying9 rfl (HX.out.of_block rfl) _ _ rfl rfl ?_; intro w3 hm3 hg3 hs3))
    go_end0
    have hm3' : MapIs w3 x.blk (Map.put (fileEnts ptr x.files) b (ptrV ptr i)) := hm3
    rw [put_map] at hm3'
    have hg3' : w.grownBy w3 (some x.blk) := ⟨hg3.os, hg3.tape, hg3.output, hg3.size, hg3.block⟩
    refine ⟨rfl, ⟨g.fm, setFiles g.ds d (Map.put x.files b i)⟩, ⟨g, x, .inl rfl, HL.out, rfl⟩, HT.out.setFiles HL.out hm3' hg3', ?_, ?_, ?_⟩
    · have hv : cs[to']? = some (topV ⟨g.fm, setFiles g.ds d (Map.put x.files b i)⟩) := HH.out.at'
      rw [set_same hv, hg3'.block tb htl (fun h => hni (by injection h with h; rw [h]; exact hxb))]
      exact HH.out.block
    · exact Turn.of_grown hg3' (fun k hk => by injection hk with hk; subst hk; exact .inr hxb)
    · intro q hq'
      left
      unfold TreeG.blocks at hq' ⊢
      simp only at hq'
      rwa [blks_set] at hq'
  | none =>
    have h1 : ∀ n, (Instr.lookup 41 (topV g) (.string d) false).run Tryd.prog (w.drewN n) = .ok (.map none) (w.drewN n) := fun n => by
      have := look_dir (h.drew n) d
      unfold dirV at this
      rw [hl] at this
      exact this
    have ha : ∀ n, Calls Tryd.prog 36 #[.pointer (some ⟨tb, to', none⟩), .string d] (w.drewN n) _ := fun n => addFolder_any (h.drew n) tb to' cs e ⟨hh.block, hh.at'⟩ d hl
    have HA := Lib.hid ha
    have HH := Lib.hid hh
    have HT := Lib.hid h
    have HL := Lib.hid hl
    clear h hh hl hmx hp ha
    generalize topV g = tv at hc h1
    go_enter Tryd.func40, Tryd.ntmps40
    go_wp2_with (first
      | (go_at_call 45; refine hs.mono ?_; rintro r w2 ⟨rfl, n, rfl⟩)
      | (go_at_call 36; ((with_reducible refine (HA.out _).mono ?_); rintro r w2 ⟨rfl, fm, bb, hW⟩; have hO := hW.out hsl; have k0 := hO.cell; have k1 := look_dir hW.tree d; rw [show dirV _ d = Value.map (some bb) from by (unfold dirV; rw [lookDir_new HL.out]; rfl)] at k1; have HW := Lib.hid hW; clear hW hO))
      | (at_mapUpdate; refine Map.wp_put _ rfl _ _ _ rfl Tryd.underlying75 Tryd.underlying9 rfl (HW.out.tree.dirs ⟨d, bb, []⟩ (by simp)) _ _ rfl rfl ?_; intro w3 hm3 hg3 hs3))
    go_end0
    have hl2 : lookDir (⟨some fm, g.ds ++ [⟨d, bb, []⟩]⟩ : TreeG) d = some ⟨d, bb, []⟩ := lookDir_new HL.out _ _
    have hm3' : MapIs w3 bb (Map.put (fileEnts ptr []) b (ptrV ptr i)) := hm3
    rw [put_map] at hm3'
    have hO := HW.out.out hsl
    have hbb : bb ∈ (⟨some fm, g.ds ++ [⟨d, bb, []⟩]⟩ : TreeG).blocks := by unfold TreeG.blocks; simp
    refine ⟨rfl, ⟨some fm, setFiles (g.ds ++ [⟨d, bb, []⟩]) d (Map.put [] b i)⟩, ⟨⟨some fm, g.ds ++ [⟨d, bb, []⟩]⟩, ⟨d, bb, []⟩, .inr ⟨HL.out, fm, bb, rfl⟩, hl2, rfl⟩, HW.out.tree.setFiles hl2 hm3' hg3, ?_, ?_, ?_⟩
    · rw [hg3.block tb hO.lt (fun h => hO.notIn HW.out.tree (by injection h with h; rw [h]; exact hbb))]
      exact HW.out.holds
    · have t0 := HW.out.turn
      refine (Turn.of_drew (S := fun k => k = tb ∨ k ∈ g.blocks) n).trans (t0.trans (S' := fun k => k = bb) (Turn.of_grown hg3 (fun k hk => by injection hk with hk; exact hk.symm)) ?_) (fun _ _ h => h)
      intro q hq1 hq2
      subst hq2
      rcases HW.out.new _ hbb with h | h
      · exact .inr h
      · omega
    · intro q hq'
      have : q ∈ (⟨some fm, g.ds ++ [⟨d, bb, []⟩]⟩ : TreeG).blocks := by
        unfold TreeG.blocks at hq' ⊢
        simp only at hq' ⊢
        rwa [blks_set] at hq'
      exact HW.out.new q this

end Go.Proofs.YtanbmlikfhcpoaaDoor.Disk

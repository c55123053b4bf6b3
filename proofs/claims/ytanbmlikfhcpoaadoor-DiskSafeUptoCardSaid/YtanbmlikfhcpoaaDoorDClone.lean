/-
  A tree with maps of its own: the contract of clone. Own text.
-/
import Derived.Test.YtanbmlikfhcpoaaDoorDDurable
import Derived.Shelf.SlMaps.Clone
import Derived.Shelf.SlGeneric
import Derived.Ground.SlmcProg
import Derived.Deep.LoopGhost
namespace Go.Proofs
open Go.Shelf
shelf_lay_g SlLaysW.n5 Slmc 5 at Tryd 43 as Tryd.cloneF
end Go.Proofs
namespace Go.Proofs.YtanbmlikfhcpoaaDoor.Disk
open Go.RowKit Go Go.Proofs.YtanbmlikfhcpoaaDoor.Base Go.Proofs.YtanbmlikfhcpoaaDoor.Map Go.Shelf

theorem mapClone_any (w : World) (b : Nat) (l : List (ByteArray × Value)) (h : MapIs w b l) :
    Calls Tryd.prog 43 #[.map (some b)] w fun e w' => e = .returned (.map (some w.heap.size)) ∧ MapIs w' w.heap.size l ∧ Below w.heap.size w w' ∧ w'.heap.size = w.heap.size + 1 := by
  obtain ⟨es, clock, hb, hs, hr⟩ := h
  have hc := AnyW.maps_Clone Tryd.cloneF b es clock w hb
  change Calls Tryd.prog 43 _ _ _ at hc
  refine hc.mono fun e w' ⟨h1, h2⟩ => ⟨h1, ?_, ?_, ?_⟩
  · subst h2; exact ⟨es, clock, heap_alloc_new w _, hs, hr⟩
  · subst h2; exact below_alloc _ _
  · subst h2; simp

theorem dirEnts_split {tx : List DirG} {t1 t2 : List (ByteArray × Value)} {k : ByteArray} {v : Value} (h : dirEnts tx = t1 ++ (k, v) :: t2) :
    ∃ x1 x x2, tx = x1 ++ x :: x2 ∧ dirEnts x1 = t1 ∧ dirEnts x2 = t2 ∧ k = x.name ∧ v = .map (some x.blk) := by
  unfold dirEnts at h
  obtain ⟨x1, r, h1, h2, h3⟩ := List.map_eq_append_iff.1 h
  obtain ⟨x, x2, h4, h5, h6⟩ := List.map_eq_cons_iff.1 h3
  injection h5 with h5 h7
  exact ⟨x1, x, x2, by rw [h1, h4], h2, h6, h5.symm, h7.symm⟩

/-- the same names with the same files -/
def likeDs (a b : List DirG) : Prop := a.map (fun x => (x.name, x.files)) = b.map (fun x => (x.name, x.files))
theorem likeDs.names {a b : List DirG} (h : likeDs a b) : a.map (·.name) = b.map (·.name) := by
  have := congrArg (List.map Prod.fst) h
  simpa [Function.comp_def] using this

/-- the world of a clone in the making: the new map F, what lies in it -/
structure Cloning (w wr : World) (ptr : Nat → Nat) (F : Nat) (dl : List DirG) : Prop where
  below : Below w.heap.size w wr
  top : MapIs wr F (dirEnts dl)
  dirs : ∀ x ∈ dl, MapIs wr x.blk (fileEnts ptr x.files)
  new : ∀ x ∈ dl, w.heap.size ≤ x.blk ∧ x.blk ≠ F
  apart : (dl.map (·.blk)).Nodup
  base : w.heap.size ≤ F

set_option maxRecDepth 100000 in
set_option maxHeartbeats 4000000 in
theorem clone_any {w : World} {ptr : Nat → Nat} {g : TreeG} (h : TreeAt w ptr g) (tb to' : Nat) (hc : w.cell? ⟨tb, to', none⟩ = some (topV g)) :
    Calls Tryd.prog 24 #[.pointer (some ⟨tb, to', none⟩)] w fun r w' =>
      ∃ F dl dx, r = .returned (.agg #[.map (some F)]) ∧ Cloning w w' ptr F dl ∧ dx.Perm g.ds ∧ likeDs dl dx := by
  have hmm := @run_makeMap Tryd.prog
  have htl := World.block_lt_of_cell? w _ hc
  unfold topV at hc
  cases hg : g.fm with
  | none =>
    rw [hg] at hc
    have hds := h.none hg
    have hrn := fun (w : World) => run_range_nilMap (P := Tryd.prog) w 41 _ _ Tryd.underlying41
    have hnn : ∀ ty, (Instr.next (.pointer (some ⟨w.heap.size + 1 + 1, 0, none⟩)) false ty).run Tryd.prog (((w.alloc (.cells #[.map none] 43)).alloc (.map #[] 0)).alloc (.mapIter none 0 #[] 0)) = .ok (.tuple #[.bool false]) (((w.alloc (.cells #[.map none] 43)).alloc (.map #[] 0)).alloc (.mapIter none 0 #[] 0)) := fun ty => by
      have := run_next_nilMap (P := Tryd.prog) ((w.alloc (.cells #[.map none] 43)).alloc (.map #[] 0)) ty 0 0 #[]
      simpa using this
    clear h
    go_enter Tryd.func24, Tryd.ntmps24
    go_wp2_with fail
    refine wp_loop_rounds 1 ?_
    rw [rounds_succ]
    go_wp2
    refine bodyPost_ret (v := .agg #[.map (some (w.heap.size + 1))]) (by simp [results, Tryd.results24, go_sem]) rfl ⟨w.heap.size + 1, [], [], rfl, ?_, ?_, rfl⟩
    · refine ⟨(((Below.refl _ w).alloc (Nat.le_refl _) _).alloc (by simp) _).alloc (by simp; omega) _, ?_, fun x hx => (by cases hx), fun x hx => (by cases hx), List.nodup_nil, by omega⟩
      have := mapIs_new (w.alloc (.cells #[.map (some (w.heap.size + 1))] 43))
      have h2 := this.of_block (w' := ((w.alloc (.cells #[.map (some (w.heap.size + 1))] 43)).alloc (.map #[] 0)).alloc (.mapIter none 0 #[] 0)) (heap_alloc_old _ _ (by simp))
      simpa [dirEnts] using h2
    · rw [hds]
  | some fm =>
    rw [hg] at hc
    have hM := h.top fm hg
    have hfl := hM.lt
    have HT := Lib.hid h
    obtain ⟨W0, hW0⟩ : ∃ W0, W0 = (w.alloc (.cells #[.map none] 43)).alloc (.map #[] 0) := ⟨_, rfl⟩
    have hb0 : Below w.heap.size w W0 := by rw [hW0]; exact ((below_alloc w _).alloc (by simp) _)
    have hs0 : W0.heap.size = w.heap.size + 2 := by rw [hW0]; simp
    have hM0 : MapIs W0 fm (dirEnts g.ds) := hM.of_block (hb0.block fm hfl)
    have hF0 : MapIs W0 (w.heap.size + 1) [] := by
      rw [hW0]
      have := mapIs_new (w.alloc (.cells #[.map none] 43))
      simpa using this
    have hres : W0.heap[w.heap.size]? = some (.cells #[.map none] 43) := by
      rw [hW0, heap_alloc_old _ _ (by simp)]
      exact heap_alloc_new w _
    have HM0 := Lib.hid hM0
    have HF0 := Lib.hid hF0
    have HB0 := Lib.hid hb0
    have HRES := Lib.hid hres
    clear h hM hb0 hM0 hF0 hres
    subst hW0
    go_enter Tryd.func24, Tryd.ntmps24
    go_wp2_with (at_range; refine Map.wp_range _ rfl _ rfl Tryd.underlying41 rfl HM0.out ?_; intro w1 hr1 hg1 hs1)
    clear hs1
    go_loopg [4] g.ds.length (fun r v wr => ∃ (dx tx dl : List DirG), r = tx.length ∧ Hid (RangeIs wr fm (w.heap.size + 2) (dirEnts dx) (dirEnts tx)) ∧ Hid (Cloning w wr ptr (w.heap.size + 1) dl) ∧ Hid ((dx ++ tx).Perm g.ds) ∧ Hid (likeDs dl dx) ∧
      Hid (wr.heap[w.heap.size]? = some (.cells #[.map none] 43)) ∧ Hid (∀ y ∈ dl, y.blk ≠ w.heap.size ∧ y.blk ≠ w.heap.size + 2))
    case atStart =>
      have hb1 : Below w.heap.size w w1 := HB0.out.trans (((Below.refl _ _).grown hg1 (Nat.le_refl _) (fun k hk => by cases hk)).mono HB0.out.size)
      refine ⟨[], g.ds, [], rfl, ?_, ⟨hb1, ?_, fun x hx => (by cases hx), fun x hx => (by cases hx), List.nodup_nil, by omega⟩, List.Perm.refl _, rfl, ?_, fun x hx => (by cases hx)⟩
      · have := hr1
        rw [hs0] at this
        exact this
      · exact HF0.out.of_block (hg1.block _ (by rw [hs0]; omega) (by simp))
      · rw [hg1.block _ (by rw [hs0]; omega) (by simp)]
        exact HRES.out
    case round =>
      obtain ⟨dx, tx, dl, rfl, HR, HC, HP, HL, HB, HY⟩ := hrel
      have hsw := HC.out.below.size
      go_wp2_with (at_next; refine Map.wp_next _ rfl _ rfl rfl HR.out ?_ ?_)
      · intro ht0
        have htx : tx = [] := by unfold dirEnts at ht0; simpa using ht0
        have hcell : wr.cell? ⟨w.heap.size, 0, none⟩ = some (.map none) := by rw [cell_of_row wr _ 0 _ _ _ HB.out]; rfl
        have hfro : wr.frozen? ⟨w.heap.size, 0, none⟩ = false := by have := HB.out; simp [World.frozen?, this]
        go_wp2
        refine bodyPost_ret (v := .agg #[.map (some (w.heap.size + 1))]) (by simp [results, Tryd.results24, go_sem, hcell]) rfl ⟨w.heap.size + 1, dl, dx, rfl, ?_, by rw [htx] at HP; simpa using HP.out, HL.out⟩
        have hoth : ∀ b, b ≠ w.heap.size → (wr.setCell ⟨w.heap.size, 0, none⟩ (.map (some (w.heap.size + 1)))).heap[b]? = wr.heap[b]? := fun b hb => Below.heap_setCell _ _ _ _ hb
        exact ⟨HC.out.below.setCell (by show w.heap.size ≤ w.heap.size; omega) _, HC.out.top.of_block (hoth _ (by omega)), fun y hy => (HC.out.dirs y hy).of_block (hoth _ (HY.out y hy).1), HC.out.new, HC.out.apart, HC.out.base⟩
      · intro k v t1 t2 w2 htodo hR2 hg2 hs2 hen
        obtain ⟨x1, x, x2, rfl, rfl, rfl, rfl, rfl⟩ := dirEnts_split htodo
        have hxm : x ∈ g.ds := HP.out.mem_iff.1 (by simp)
        have hsrc0 := HT.out.dirs x hxm
        have hxl := hsrc0.lt
        have hsrc : MapIs w2 x.blk (fileEnts ptr x.files) := hsrc0.of_block ((hg2.block _ (by omega) (fun e => by injection e with e; omega)).trans (HC.out.below.block _ hxl))
        have hFl := HC.out.top.lt
        have htop2 : MapIs w2 (w.heap.size + 1) (dirEnts dl) := HC.out.top.of_block (hg2.block _ hFl (fun e => by injection e with e; omega))
        have HS := Lib.hid hsrc
        have HT2 := Lib.hid htop2
        have HR2 := Lib.hid hR2
        have HG2 := Lib.hid hg2
        have HS2 := Lib.hid hs2
        have HHL := Lib.hid hFl
        clear hsrc htop2 hR2 hg2 hs2 htodo hFl hsrc0
        go_wp2_with (first
          | (go_at_call 43; ((refine (mapClone_any _ _ _ HS.out).mono ?_); rintro r w3 ⟨rfl, hm3, hb3, hs3⟩; have htop3 := HT2.out.of_block (hb3.block _ HT2.out.lt); have HT3 := Lib.hid htop3; have HB3 := Lib.hid hb3; have HS3 := Lib.hid hs3; have HM3 := Lib.hid hm3; clear htop3 hb3 hs3 hm3))
          | (at_mapUpdate; refine Map.wp_put _ rfl _ _ _ rfl Tryd.underlying41 Tryd.underlying9 rfl HT3.out _ _ rfl rfl ?_; intro w4 hm4 hg4 hs4))
        go_frame
        go_roundg (x1 ++ x2).length
        case measure => simp
        case rel =>
          have h2l := HG2.out.size
          have hF : w.heap.size + 1 < wr.heap.size := HHL.out
          have old : ∀ b, b < wr.heap.size → b ≠ w.heap.size + 2 → b ≠ w.heap.size + 1 → w4.heap[b]? = wr.heap[b]? := fun b hb h1 h2 => by
            rw [hg4.block b (by have := HB3.out.size; omega) (fun e => h2 (by injection e)), HB3.out.block b (by omega), HG2.out.block b hb (fun e => h1 (by injection e))]
          have hn : (g.ds.map (·.name)).Nodup := names_nodup HT.out
          have hnp : ((dx ++ (x1 ++ x :: x2)).map (·.name)).Nodup := (HP.out.map _).nodup_iff.2 hn
          have hnk : x.name ∉ keys (dirEnts dl) := by
            rw [keys_dirEnts, HL.out.names]
            intro hm
            rw [List.map_append, List.nodup_append] at hnp
            exact hnp.2.2 _ hm _ (List.mem_map.2 ⟨x, by simp, rfl⟩) rfl
          have hm4' : MapIs w4 (w.heap.size + 1) (Map.put (dirEnts dl) x.name (.map (some w2.heap.size))) := hm4
          rw [keys_put_new hnk] at hm4'
          have h2w : w2.heap.size = wr.heap.size := HS2.out
          refine ⟨dx ++ [x], x1 ++ x2, dl ++ [⟨x.name, w2.heap.size, x.files⟩], rfl, ?_, ⟨?_, ?_, ?_, ?_, ?_, by omega⟩, ?_, ?_, ?_, ?_⟩
          · show RangeIs _ _ _ _ _
            rw [dirEnts_append, dirEnts_append]
            refine HR2.out.kept ?_ ?_
            · rw [hg4.block _ (by have := HB3.out.size; omega) (fun e => by injection e with e; omega), HB3.out.block _ (by omega)]
            · have := HR2.out.lt.2.1
              rw [hg4.block _ (by have := HB3.out.size; omega) (fun e => by injection e with e; omega), HB3.out.block _ this]
          · refine HC.out.below.trans ?_
            have b1 : Below w.heap.size wr w2 := (Below.refl _ _).grown HG2.out hsw (fun k hk => by injection hk with hk; omega)
            have b2 : Below w.heap.size w2 _ := HB3.out.mono (by omega)
            exact (b1.trans b2).grown hg4 (by have := HB3.out.size; omega) (fun k hk => by injection hk with hk; omega)
          · rw [dirEnts_append]; exact hm4'
          · intro y hy
            rcases List.mem_append.1 hy with hy | hy
            · exact (HC.out.dirs y hy).of_block (old _ (HC.out.dirs y hy).lt (HY.out y hy).2 (HC.out.new y hy).2)
            · simp at hy
              subst hy
              exact HM3.out.of_block (hg4.block _ (by have := HS3.out; omega) (fun e => by injection e with e; omega))
          · intro y hy
            rcases List.mem_append.1 hy with hy | hy
            · exact HC.out.new y hy
            · simp at hy
              subst hy
              simp only
              omega
          · rw [List.map_append, List.nodup_append]
            refine ⟨HC.out.apart, by simp, fun a h1 b h2 => ?_⟩
            obtain ⟨y, hy, rfl⟩ := List.mem_map.1 h1
            simp at h2
            subst h2
            have := (HC.out.dirs y hy).lt
            omega
          · show List.Perm _ _
            refine List.Perm.trans ?_ HP.out
            rw [List.append_assoc]
            exact List.Perm.append_left _ (by show (x :: (x1 ++ x2)).Perm _; exact List.perm_middle.symm)
          · have := HL.out
            unfold likeDs at this ⊢
            show _ = _
            rw [List.map_append, List.map_append, this]
            rfl
          · show w4.heap[w.heap.size]? = _
            rw [old _ (by omega) (by omega) (by omega)]
            exact HB.out
          · intro y hy
            rcases List.mem_append.1 hy with hy | hy
            · exact HY.out y hy
            · simp at hy
              subst hy
              have := HR2.out.lt.2.1
              simp only
              omega

end Go.Proofs.YtanbmlikfhcpoaaDoor.Disk

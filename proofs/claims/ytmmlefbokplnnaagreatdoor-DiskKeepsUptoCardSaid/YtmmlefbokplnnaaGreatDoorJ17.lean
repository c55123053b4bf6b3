/-
  The texts DClone, DSize, DRemove, joined. Own text.
-/
import Derived.Test.YtmmlefbokplnnaaGreatDoorJ14
import Derived.Shelf.SlMaps.Clone
import Derived.Shelf.SlGeneric
import Derived.Ground.SlmcProg
import Derived.Deep.LoopGhost
import Derived.Test.YtmmlefbokplnnaaGreatDoorJ15
set_option linter.unusedVariables false
set_option linter.unusedSimpArgs false
namespace Go.Proofs
open Go.Shelf
def Tryz.cloneF_ren : Go.Shelf.Ren := ⟨fun | 5 => 81 | 7 => 108 | n => n, fun | 23 => 128 | 25 => 9 | 3 => 88 | 4 => 4 | 20 => 20 | n => n, fun | n => n⟩
theorem Tryz.cloneF : Go.Proofs.SlLaysW.n5 Tryz.prog Tryz.cloneF_ren := {
  mixed := by kernel_rfl
  f5 := ⟨Tryz.f81.name, by decide, Tryz.func81.trans (congrArg some (by kernel_rfl))⟩
  f7 := Tryz.func108.trans (congrArg some (by kernel_rfl))
  t4 := Tryz.underlying4
  a4 := Tryz.isAgg4
  z4 := Tryz.sizeOf4
  v4 := Tryz.zeroValue4
  t20 := Tryz.underlying20
  a20 := Tryz.isAgg20
  z20 := Tryz.sizeOf20
  v20 := Tryz.zeroValue20
  t23 := Tryz.underlying128
  a23 := Tryz.isAgg128
  z23 := Tryz.sizeOf128
  v23 := Tryz.zeroValue128 }
end Go.Proofs
namespace Go.Proofs.YtmmlefbokplnnaaGreatDoor.Disk
open Go.RowKit Go Go.Proofs.YtmmlefbokplnnaaGreatDoor.Base Go.Proofs.YtmmlefbokplnnaaGreatDoor.Map Go.Shelf

theorem mapClone_any (w : World) (b : Nat) (l : List (ByteArray × Value)) (h : MapIs w b l) :
    Calls Tryz.prog 81 #[.map (some b)] w fun e w' => e = .returned (.map (some w.heap.size)) ∧ MapIs w' w.heap.size l ∧ Below w.heap.size w w' ∧ w'.heap.size = w.heap.size + 1 := by
  obtain ⟨es, clock, hb, hs, hr⟩ := h
  have hc := AnyW.maps_Clone Tryz.cloneF b es clock w hb
  change Calls Tryz.prog 81 _ _ _ at hc
  refine hc.mono fun e w' ⟨h1, h2⟩ => ⟨h1, ?_, ?_, ?_⟩
  · subst h2; exact ⟨es, clock, heap_alloc_new w _, hs, hr⟩
  · subst h2; exact below_alloc _ _
  · subst h2; simp

theorem dirEnts_split {tx : List DirG} {t1 t2 : List (ByteArray × Value)} {k : ByteArray} {v : Value} (h : dirEnts tx = t1 ++ (k, v) :: t2) :
    ∃ x1 x x2, tx = x1 ++ x :: x2 ∧ dirEnts x1 = t1 ∧ dirEnts x2 = t2 ∧ k = x.name ∧ v = .map (some x.blk) := by
  unfold dirEnts at h
  obtain ⟨x1, r, h1, h2, h3⟩ := List.map_eq_append_iff.1 h
  obtain ⟨x, x2, h4, h5, h6⟩ := List.map_eq_cons_iff.1 h3
  injection h5 with h5 h7
  exact ⟨x1, x, x2, by rw [h1, h4], h2, h6, h5.symm, h7.symm⟩

/-- the same names with the same files -/
def likeDs (a b : List DirG) : Prop := a.map (fun x => (x.name, x.files)) = b.map (fun x => (x.name, x.files))
theorem likeDs.names {a b : List DirG} (h : likeDs a b) : a.map (·.name) = b.map (·.name) := by
  have := congrArg (List.map Prod.fst) h
  simpa [Function.comp_def] using this

/-- the world of a clone in the making: the new map F, what lies in it -/
structure Cloning (w wr : World) (ptr : Nat → Nat) (F : Nat) (dl : List DirG) : Prop where
  below : Below w.heap.size w wr
  top : MapIs wr F (dirEnts dl)
  dirs : ∀ x ∈ dl, MapIs wr x.blk (fileEnts ptr x.files)
  new : ∀ x ∈ dl, w.heap.size ≤ x.blk ∧ x.blk ≠ F
  apart : (dl.map (·.blk)).Nodup
  base : w.heap.size ≤ F

set_option maxRecDepth 100000 in
set_option maxHeartbeats 4000000 in
theorem clone_any {w : World} {ptr : Nat → Nat} {g : TreeG} (h : TreeAt w ptr g) (tb to' : Nat) (hc : w.cell? ⟨tb, to', none⟩ = some (topV g)) :
    Calls Tryz.prog 46 #[.pointer (some ⟨tb, to', none⟩)] w fun r w' =>
      ∃ F dl dx, r = .returned (.agg #[.map (some F)]) ∧ Cloning w w' ptr F dl ∧ dx.Perm g.ds ∧ likeDs dl dx := by
  have hmm := @run_makeMap Tryz.prog
  have htl := World.block_lt_of_cell? w _ hc
  unfold topV at hc
  cases hg : g.fm with
  | none =>
    rw [hg] at hc
    have hds := h.none hg
    have hrn := fun (w : World) => run_range_nilMap (P := Tryz.prog) w 58 _ _ Tryz.underlying58
    have hnn : ∀ ty, (Instr.next (.pointer (some ⟨w.heap.size + 1 + 1, 0, none⟩)) false ty).run Tryz.prog (((w.alloc (.cells #[.map none] 60)).alloc (.map #[] 0)).alloc (.mapIter none 0 #[] 0)) = .ok (.tuple #[.bool false]) (((w.alloc (.cells #[.map none] 60)).alloc (.map #[] 0)).alloc (.mapIter none 0 #[] 0)) := fun ty => by
      have := run_next_nilMap (P := Tryz.prog) ((w.alloc (.cells #[.map none] 60)).alloc (.map #[] 0)) ty 0 0 #[]
      simpa using this
    clear h
    go_enter Tryz.func46, Tryz.ntmps46
    go_wp2_with fail
    refine wp_loop_rounds 1 ?_
    rw [rounds_succ]
    go_wp2
    refine bodyPost_ret (v := .agg #[.map (some (w.heap.size + 1))]) (by simp [results, Tryz.results46, go_sem]) rfl ⟨w.heap.size + 1, [], [], rfl, ?_, ?_, rfl⟩
    · refine ⟨(((Below.refl _ w).alloc (Nat.le_refl _) _).alloc (by simp) _).alloc (by simp; omega) _, ?_, fun x hx => (by cases hx), fun x hx => (by cases hx), List.nodup_nil, by omega⟩
      have := mapIs_new (w.alloc (.cells #[.map (some (w.heap.size + 1))] 60))
      have h2 := this.of_block (w' := ((w.alloc (.cells #[.map (some (w.heap.size + 1))] 60)).alloc (.map #[] 0)).alloc (.mapIter none 0 #[] 0)) (heap_alloc_old _ _ (by simp))
      simpa [dirEnts] using h2
    · rw [hds]
  | some fm =>
    rw [hg] at hc
    have hM := h.top fm hg
    have hfl := hM.lt
    have HT := Lib.hid h
    obtain ⟨W0, hW0⟩ : ∃ W0, W0 = (w.alloc (.cells #[.map none] 60)).alloc (.map #[] 0) := ⟨_, rfl⟩
    have hb0 : Below w.heap.size w W0 := by rw [hW0]; exact ((below_alloc w _).alloc (by simp) _)
    have hs0 : W0.heap.size = w.heap.size + 2 := by rw [hW0]; simp
    have hM0 : MapIs W0 fm (dirEnts g.ds) := hM.of_block (hb0.block fm hfl)
    have hF0 : MapIs W0 (w.heap.size + 1) [] := by
      rw [hW0]
      have := mapIs_new (w.alloc (.cells #[.map none] 60))
      simpa using this
    have hres : W0.heap[w.heap.size]? = some (.cells #[.map none] 60) := by
      rw [hW0, heap_alloc_old _ _ (by simp)]
      exact heap_alloc_new w _
    have HM0 := Lib.hid hM0
    have HF0 := Lib.hid hF0
    have HB0 := Lib.hid hb0
    have HRES := Lib.hid hres
    clear h hM hb0 hM0 hF0 hres
    subst hW0
    go_enter Tryz.func46, Tryz.ntmps46
    go_wp2_with (at_range; refine Map.wp_range _ rfl _ rfl Tryz.underlying58 rfl HM0.out ?_; intro w1 hr1 hg1 hs1)
    clear hs1
    go_loopg [4] g.ds.length (fun r v wr => ∃ (dx tx dl : List DirG), r = tx.length ∧ Hid (RangeIs wr fm (w.heap.size + 2) (dirEnts dx) (dirEnts tx)) ∧ Hid (Cloning w wr ptr (w.heap.size + 1) dl) ∧ Hid ((dx ++ tx).Perm g.ds) ∧ Hid (likeDs dl dx) ∧
      Hid (wr.heap[w.heap.size]? = some (.cells #[.map none] 60)) ∧ Hid (∀ y ∈ dl, y.blk ≠ w.heap.size ∧ y.blk ≠ w.heap.size + 2))
    case atStart =>
      have hb1 : Below w.heap.size w w1 := HB0.out.trans (((Below.refl _ _).grown hg1 (Nat.le_refl _) (fun k hk => by cases hk)).mono HB0.out.size)
      refine ⟨[], g.ds, [], rfl, ?_, ⟨hb1, ?_, fun x hx => (by cases hx), fun x hx => (by cases hx), List.nodup_nil, by omega⟩, List.Perm.refl _, rfl, ?_, fun x hx => (by cases hx)⟩
      · have := hr1
        rw [hs0] at this
        exact this
      · exact HF0.out.of_block (hg1.block _ (by rw [hs0]; omega) (by simp))
      · rw [hg1.block _ (by rw [hs0]; omega) (by simp)]
        exact HRES.out
    case round =>
      obtain ⟨dx, tx, dl, rfl, HR, HC, HP, HL, HB, HY⟩ := hrel
      have hsw := HC.out.below.size
      go_wp2_with (at_next; refine Map.wp_next _ rfl _ rfl rfl HR.out ?_ ?_)
      · intro ht0
        have htx : tx = [] := by unfold dirEnts at ht0; simpa using ht0
        have hcell : wr.cell? ⟨w.heap.size, 0, none⟩ = some (.map none) := by rw [cell_of_row wr _ 0 _ _ _ HB.out]; rfl
        have hfro : wr.frozen? ⟨w.heap.size, 0, none⟩ = false := by have := HB.out; simp [World.frozen?, this]
        go_wp2
        refine bodyPost_ret (v := .agg #[.map (some (w.heap.size + 1))]) (by simp [results, Tryz.results46, go_sem, hcell]) rfl ⟨w.heap.size + 1, dl, dx, rfl, ?_, by rw [htx] at HP; simpa using HP.out, HL.out⟩
        have hoth : ∀ b, b ≠ w.heap.size → (wr.setCell ⟨w.heap.size, 0, none⟩ (.map (some (w.heap.size + 1)))).heap[b]? = wr.heap[b]? := fun b hb => Below.heap_setCell _ _ _ _ hb
        exact ⟨HC.out.below.setCell (by show w.heap.size ≤ w.heap.size; omega) _, HC.out.top.of_block (hoth _ (by omega)), fun y hy => (HC.out.dirs y hy).of_block (hoth _ (HY.out y hy).1), HC.out.new, HC.out.apart, HC.out.base⟩
      · intro k v t1 t2 w2 htodo hR2 hg2 hs2 hen
        obtain ⟨x1, x, x2, rfl, rfl, rfl, rfl, rfl⟩ := dirEnts_split htodo
        have hxm : x ∈ g.ds := HP.out.mem_iff.1 (by simp)
        have hsrc0 := HT.out.dirs x hxm
        have hxl := hsrc0.lt
        have hsrc : MapIs w2 x.blk (fileEnts ptr x.files) := hsrc0.of_block ((hg2.block _ (by omega) (fun e => by injection e with e; omega)).trans (HC.out.below.block _ hxl))
        have hFl := HC.out.top.lt
        have htop2 : MapIs w2 (w.heap.size + 1) (dirEnts dl) := HC.out.top.of_block (hg2.block _ hFl (fun e => by injection e with e; omega))
        have HS := Lib.hid hsrc
        have HT2 := Lib.hid htop2
        have HR2 := Lib.hid hR2
        have HG2 := Lib.hid hg2
        have HS2 := Lib.hid hs2
        have HHL := Lib.hid hFl
        clear hsrc htop2 hR2 hg2 hs2 htodo hFl hsrc0
        go_wp2_with (first
          | (go_at_call 81; ((refine (mapClone_any _ _ _ HS.out).mono ?_); rintro r w3 ⟨rfl, hm3, hb3, hs3⟩; have htop3 := HT2.out.of_block (hb3.block _ HT2.out.lt); have HT3 := Lib.hid htop3; have HB3 := Lib.hid hb3; have HS3 := Lib.hid hs3; have HM3 := Lib.hid hm3; clear htop3 hb3 hs3 hm3))
          | (at_mapUpdate; refine Map.wp_put _ rfl _ _ _ rfl Tryz.underlying58 Tryz.underlying9 rfl HT3.out _ _ rfl rfl ?_; intro w4 hm4 hg4 hs4))
        go_frame
        go_roundg (x1 ++ x2).length
        case measure => simp
        case rel =>
          have h2l := HG2.out.size
          have hF : w.heap.size + 1 < wr.heap.size := HHL.out
          have old : ∀ b, b < wr.heap.size → b ≠ w.heap.size + 2 → b ≠ w.heap.size + 1 → w4.heap[b]? = wr.heap[b]? := fun b hb h1 h2 => by
            rw [hg4.block b (by have := HB3.out.size; omega) (fun e => h2 (by injection e)), HB3.out.block b (by omega), HG2.out.block b hb (fun e => h1 (by injection e))]
          have hn : (g.ds.map (·.name)).Nodup := names_nodup HT.out
          have hnp : ((dx ++ (x1 ++ x :: x2)).map (·.name)).Nodup := (HP.out.map _).nodup_iff.2 hn
          have hnk : x.name ∉ keys (dirEnts dl) := by
            rw [keys_dirEnts, HL.out.names]
            intro hm
            rw [List.map_append, List.nodup_append] at hnp
            exact hnp.2.2 _ hm _ (List.mem_map.2 ⟨x, by simp, rfl⟩) rfl
          have hm4' : MapIs w4 (w.heap.size + 1) (Map.put (dirEnts dl) x.name (.map (some w2.heap.size))) := hm4
          rw [keys_put_new hnk] at hm4'
          have h2w : w2.heap.size = wr.heap.size := HS2.out
          refine ⟨dx ++ [x], x1 ++ x2, dl ++ [⟨x.name, w2.heap.size, x.files⟩], rfl, ?_, ⟨?_, ?_, ?_, ?_, ?_, by omega⟩, ?_, ?_, ?_, ?_⟩
          · show RangeIs _ _ _ _ _
            rw [dirEnts_append, dirEnts_append]
            refine HR2.out.kept ?_ ?_
            · rw [hg4.block _ (by have := HB3.out.size; omega) (fun e => by injection e with e; omega), HB3.out.block _ (by omega)]
            · have := HR2.out.lt.2.1
              rw [hg4.block _ (by have := HB3.out.size; omega) (fun e => by injection e with e; omega), HB3.out.block _ this]
          · refine HC.out.below.trans ?_
            have b1 : Below w.heap.size wr w2 := (Below.refl _ _).grown HG2.out hsw (fun k hk => by injection hk with hk; omega)
            have b2 : Below w.heap.size w2 _ := HB3.out.mono (by omega)
            exact (b1.trans b2).grown hg4 (by have := HB3.out.size; omega) (fun k hk => by injection hk with hk; omega)
          · rw [dirEnts_append]; exact hm4'
          · intro y hy
            rcases List.mem_append.1 hy with hy | hy
            · exact (HC.out.dirs y hy).of_block (old _ (HC.out.dirs y hy).lt (HY.out y hy).2 (HC.out.new y hy).2)
            · simp at hy
              subst hy
              exact HM3.out.of_block (hg4.block _ (by have := HS3.out; omega) (fun e => by injection e with e; omega))
          · intro y hy
            rcases List.mem_append.1 hy with hy | hy
            · exact HC.out.new y hy
            · simp at hy
              subst hy
              simp only
              omega
          · rw [List.map_append, List.nodup_append]
            refine ⟨HC.out.apart, by simp, fun a h1 b h2 => ?_⟩
            obtain ⟨y, hy, rfl⟩ := List.mem_map.1 h1
            simp at h2
            subst h2
            have := (HC.out.dirs y hy).lt
            omega
          · show List.Perm _ _
            refine List.Perm.trans ?_ HP.out
            rw [List.append_assoc]
            exact List.Perm.append_left _ (by show (x :: (x1 ++ x2)).Perm _; exact List.perm_middle.symm)
          · have := HL.out
            unfold likeDs at this ⊢
            show _ = _
            rw [List.map_append, List.map_append, this]
            rfl
          · show w4.heap[w.heap.size]? = _
            rw [old _ (by omega) (by omega) (by omega)]
            exact HB.out
          · intro y hy
            rcases List.mem_append.1 hy with hy | hy
            · exact HY.out y hy
            · simp at hy
              subst hy
              have := HR2.out.lt.2.1
              simp only
              omega

end Go.Proofs.YtmmlefbokplnnaaGreatDoor.Disk

namespace Go.Proofs.YtmmlefbokplnnaaGreatDoor.Disk
open Go.RowKit Go Go.Proofs.YtmmlefbokplnnaaGreatDoor.Base Go.Proofs.YtmmlefbokplnnaaGreatDoor.Map

def lensOf (G : DiskG) (fs : List (ByteArray × Nat)) : Nat := (fs.map fun q => (pfAt G q.2).bytes.length).sum
def sizeG (G : DiskG) (p : ByteArray) : Nat :=
  match fileOf G.gc p with
  | some i => (pfAt G i).bytes.length
  | none => match lookDir G.gc p with | none => 0 | some x => lensOf G x.files

theorem lensOf_append (G : DiskG) (a b : List (ByteArray × Nat)) : lensOf G (a ++ b) = lensOf G a + lensOf G b := by simp [lensOf]
theorem lensOf_perm (G : DiskG) {a b : List (ByteArray × Nat)} (h : a.Perm b) : lensOf G a = lensOf G b := by
  unfold lensOf
  exact (h.map _).sum_nat
theorem fileEnts_split' {ptr : Nat → Nat} {tx : List (ByteArray × Nat)} {t1 t2 : List (ByteArray × Value)} {k : ByteArray} {v : Value} (h : fileEnts ptr tx = t1 ++ (k, v) :: t2) :
    ∃ x1 x x2, tx = x1 ++ x :: x2 ∧ fileEnts ptr x1 = t1 ∧ fileEnts ptr x2 = t2 ∧ k = x.1 ∧ v = ptrV ptr x.2 := by
  unfold fileEnts at h
  obtain ⟨x1, r, h1, h2, h3⟩ := List.map_eq_append_iff.1 h
  obtain ⟨x, x2, h4, h5, h6⟩ := List.map_eq_cons_iff.1 h3
  simp only [Prod.mk.injEq] at h5
  exact ⟨x1, x, x2, by rw [h1, h4], h2, h6, h5.1.symm, h5.2.symm⟩

set_option maxRecDepth 100000 in
set_option maxHeartbeats 4000000 in
theorem size_any {w : World} {D : Nat} {G : DiskG} (h : DiskAt w D G) (hm : Max w) (hn : NumsOk G) (p : ByteArray) (hp : p.size < 4294967281)
    (hfs : ∀ i, i < G.pfs.length → (pfAt G i).bytes.length < 549755813888) (hsum : ∀ x, lookDir G.gc p = some x → lensOf G x.files < 1152921504606846976) :
    Calls Tryz.prog 102 #[.pointer (some ⟨D, 0, none⟩), .string p] w fun r w' => r = .returned (.int .i64 (sizeG G p : Int)) ∧ Below w.heap.size w w' := by
  have hc : w.cell? ⟨D, 0, none⟩ = some (topV G.gc) := h.cell 0
  have c1 := file_any h.parts.cur D 0 hc p hp hm
  unfold sizeG
  cases hf : fileOf G.gc p with
  | some i =>
    have hi := fileOf_lt hn hf
    have hfile := h.parts.files i hi
    rw [pfAt_eq hi] at hfile
    obtain ⟨ba, bc, hbv, _⟩ := row_len hfile.bytes
    have c0 : ∀ n, (w.drewN n).cell? ⟨G.ptr i, 0, none⟩ = some (.slice ba (pfAt G i).bytes.length bc) := fun n => by have := hfile.cell0; rw [hbv] at this; exact this
    rw [hf] at c1
    simp only [fileV, ptrV] at c1 ⊢
    generalize (pfAt G i).bytes.length = L at *
    clear h hm hn hp hfs hsum hfile hbv hf hi hc
    go_enter Tryz.func102, Tryz.ntmps102
    go_wp2_with (go_at_call 48; refine c1.mono ?_; rintro r w2 ⟨rfl, n, rfl⟩)
    go_ret
    exact ⟨rfl, (Below.refl _ _).drewN n⟩
  | none =>
    rw [hf] at c1
    simp only [fileV] at c1 ⊢
    have hlk := fun n => look_dir (h.parts.cur.drew n) p
    cases hx : lookDir G.gc p with
    | none =>
      have hv : dirV G.gc p = .map none := by unfold dirV; rw [hx]; rfl
      rw [hv] at hlk
      simp only
      have hc' : ∀ n, (w.drewN n).cell? ⟨D, 0, none⟩ = some (topV G.gc) := fun n => hc
      generalize topV G.gc = tv at *
      have hrn := fun W => run_range_nilMap (P := Tryz.prog) W 128 _ _ Tryz.underlying128
      clear h hm hn hp hfs hsum hf hx hv hc
      go_enter Tryz.func102, Tryz.ntmps102
      have hnn := fun n ty => run_next_nilMap (P := Tryz.prog) (w.drewN n) ty 0 0 #[]
      go_wp2_with (go_at_call 48; refine c1.mono ?_; rintro r w2 ⟨rfl, n, rfl⟩)
      have hnn : ∀ ty, (Instr.next (.pointer (some ⟨w.heap.size, 0, none⟩)) false ty).run Tryz.prog ((w.drewN n).alloc (.mapIter none 0 #[] 0)) = .ok (.tuple #[.bool false]) ((w.drewN n).alloc (.mapIter none 0 #[] 0)) := fun ty => hnn n ty
      refine wp_loop_rounds 1 ?_
      rw [rounds_succ]
      go_wp2
      go_ret
      exact ⟨rfl, ((Below.refl _ _).drewN n).alloc (Nat.le_refl _) _⟩
    | some x =>
      have hxm := (lookDir_mem hx).1
      have hM := h.parts.cur.dirs x hxm
      have hfl := hM.lt
      have hv : dirV G.gc p = .map (some x.blk) := by unfold dirV; rw [hx]; rfl
      rw [hv] at hlk
      have hnm := hn.cur x hxm
      have hsx := hsum x hx
      have hc' : ∀ n, (w.drewN n).cell? ⟨D, 0, none⟩ = some (topV G.gc) := fun n => hc
      simp only
      obtain ⟨T, hT⟩ : ∃ T, lensOf G x.files = T := ⟨_, rfl⟩
      rw [hT] at hsx ⊢
      have HT := Lib.hid hT
      have HD := Lib.hid h
      have HM := Lib.hid hM
      have HNM := Lib.hid hnm
      have HFS := Lib.hid hfs
      generalize topV G.gc = tv at hlk hc hc' c1
      clear h hn hx hM hxm hnm hm hp hsum hf hv hfs hT hc
      go_enter Tryz.func102, Tryz.ntmps102
      go_wp2_with (first
        | (go_at_call 48; refine c1.mono ?_; rintro r w2 ⟨rfl, n, rfl⟩)
        | (at_range; refine Map.wp_range _ rfl _ rfl Tryz.underlying128 rfl (HM.out.of_block rfl) ?_; intro w1 hr1 hg1 hs1))
      clear hs1
      go_frame
      go_loopg [6] x.files.length (fun r v wr => ∃ (fx ft : List (ByteArray × Nat)) (S : Nat), r = ft.length ∧ Hid (RangeIs wr x.blk w.heap.size (fileEnts G.ptr fx) (fileEnts G.ptr ft)) ∧ Hid (Below w.heap.size w wr) ∧ Hid ((fx ++ ft).Perm x.files) ∧ v = .int .i64 (S : Int) ∧ Hid (S = lensOf G fx))
      case atStart => exact ⟨[], x.files, 0, rfl, hr1, ((Below.refl _ _).drewN n).grown hg1 (Nat.le_refl _) (fun k hk => by cases hk), List.Perm.refl _, rfl, rfl⟩
      case round =>
        obtain ⟨fx, ft, S, rfl, HR, HW, HP, rfl, HS⟩ := hrel
        go_wp2_with (at_next; refine Map.wp_next _ rfl _ rfl rfl HR.out ?_ ?_)
        · intro ht0
          have hft : ft = [] := by unfold fileEnts at ht0; simpa using ht0
          subst hft
          have e : S = T := by
            rw [HS.out, ← HT.out]
            have := HP.out
            rw [List.append_nil] at this
            exact lensOf_perm G this
          subst e
          go_wp2
          go_ret
          exact ⟨rfl, HW.out⟩
        · intro k v t1 t2 w2 htodo hR2 hg2 hs2 hen
          obtain ⟨y1, y, y2, rfl, rfl, rfl, rfl, rfl⟩ := fileEnts_split' htodo
          have hym : y ∈ x.files := HP.out.mem_iff.1 (by simp)
          have hyn := HNM.out y hym
          have hfile := HD.out.parts.files y.2 hyn
          rw [pfAt_eq hyn] at hfile
          have hW2 : Below w.heap.size w w2 := HW.out.grown hg2 HW.out.size (fun k hk => by injection hk with hk; omega)
          have hcell : w2.cell? ⟨G.ptr y.2, 0, none⟩ = some (G.bvs y.2) := (hW2.cell (p := ⟨G.ptr y.2, 0, none⟩) hfile.lt).trans hfile.cell0
          obtain ⟨ba, bc, hbv, _⟩ := row_len hfile.bytes
          rw [hbv] at hcell
          have hLS : S + (pfAt G y.2).bytes.length = lensOf G (fx ++ [y]) := by rw [lensOf_append, HS.out]; simp [lensOf]
          have hle : lensOf G (fx ++ [y]) ≤ T := by
            rw [← HT.out, ← lensOf_perm G HP.out, lensOf_append, lensOf_append]
            have : lensOf G (y :: y2) = lensOf G [y] + lensOf G y2 := by rw [← lensOf_append]; rfl
            rw [lensOf_append, this]
            omega
          rw [← hLS] at hle
          generalize (pfAt G y.2).bytes.length = L at *
          have HLS := Lib.hid hLS
          have HR2 := Lib.hid hR2
          have HW2 := Lib.hid hW2
          unfold ptrV at hen
          clear hR2 hW2 hg2 hs2 htodo hfile hbv hLS hyn hym
          unfold ptrV
          go_wp2
          go_roundg (y1 ++ y2).length
          case measure => simp
          case rel =>
            refine ⟨fx ++ [y], y1 ++ y2, S + L, rfl, ?_, HW2.out, ?_, by go_num, HLS.out⟩
            · show RangeIs _ _ _ _ _
              have e1 : fileEnts G.ptr (fx ++ [y]) = fileEnts G.ptr fx ++ [(y.1, ptrV G.ptr y.2)] := by simp [fileEnts]
              have e2 : fileEnts G.ptr (y1 ++ y2) = fileEnts G.ptr y1 ++ fileEnts G.ptr y2 := by simp [fileEnts]
              rw [e1, e2]
              exact HR2.out
            · show List.Perm _ _
              refine List.Perm.trans ?_ HP.out
              rw [List.append_assoc]
              exact List.Perm.append_left _ (by show (y :: (y1 ++ y2)).Perm _; exact List.perm_middle.symm)

end Go.Proofs.YtmmlefbokplnnaaGreatDoor.Disk

namespace Go.Proofs.YtmmlefbokplnnaaGreatDoor.Disk
open Go.RowKit Go Go.Proofs.YtmmlefbokplnnaaGreatDoor.Base Go.Proofs.YtmmlefbokplnnaaGreatDoor.Map

def removeCode (G : DiskG) (p : ByteArray) : Nat :=
  if G.off then 1 else if isPath p = false then 2 else if existsG G.gc p = false then 4 else if G.crash = 1 then 1 else 0
/-- what a names step leaves: the tree, the step, the number of the bytes -/
def Stepped (G : DiskG) (s : NStep) (minus : Nat) (c : Nat) (G' : DiskG) : Prop :=
  (c ≠ 0 ∧ Refused G c G') ∨
  (c = 0 ∧ ∃ v bs, Applied s G.gc G'.gc ∧ G'.steps = G.steps ++ [⟨s, v, bs⟩] ∧
    G'.gd = G.gd ∧ G'.ptr = G.ptr ∧ G'.pfs = G.pfs ∧ G'.bvs = G.bvs ∧ G'.svs = G.svs ∧ G'.cap = G.cap ∧ G'.used = G.used - minus ∧ G'.off = G.off ∧ G'.crash = G.crash - 1)

/-- a names step is made by change -/
theorem named_step {w w1 : World} {D : Nat} {G : DiskG} {E : Nat → Addr} (h : DiskAt w D G) (he : Env w E) (hc : G.crash < 9223372036854775808) (hown : ∀ k, k < 8 → ¬ G.own D k) (hlen : G.steps.length < 1099511627776)
    (hB : Below w.heap.size w w1) {v : Value} {bs : List Nat} {s : NStep} (hst : StepAt w1 G.ptr v bs s) (hbs : ∀ b ∈ bs, w.heap.size ≤ b) (hf : Fits s G.gc) :
    Calls Tryz.prog 94 #[.pointer (some ⟨D, 0, none⟩), v] w1 fun r w' =>
      r = .returned (errV E (if G.crash = 1 then 1 else 0)) ∧ ∃ G', DiskAt w' D G' ∧ Turn (G.own D) w w' ∧ Stepped G s 0 (if G.crash = 1 then 1 else 0) G' ∧ (∀ k, G'.own D k → G.own D k ∨ w.heap.size ≤ k) := by
  have h4 := h.below hB
  have he4 : Env w1 E := he.turn (Turn.of_below (S := fun _ => False) hB) (fun _ _ h => h)
  have hs4 := hB.size
  have hch := change_any h4 he4 hc hown hlen hst hf (fun b hb => by
    have hDl := h.lt
    have := hbs b hb
    refine ⟨by omega, fun hb2 => ?_⟩
    have := h.parts.cur.lt b hb2
    omega)
  refine hch.mono fun r w' hh => ?_
  have turn : ∀ {S : Nat → Prop} {a : World}, Turn S w1 a → (∀ k, k < w.heap.size → S k → G.own D k) → Turn (G.own D) w a := fun {S a} ht hS => (Turn.of_below hB).trans ht hS
  rcases hh with ⟨c1, rfl, hd, ht⟩ | ⟨c1, rfl, G', hd, ht, hap, hst', hrest, hbl, hnv⟩
  · rw [if_pos c1]
    exact ⟨rfl, { G with off := true }, hd, turn ht (fun k _ hk => .inl hk), .inl ⟨by decide, .inr ⟨c1, rfl, rfl⟩⟩, fun k hk => .inl hk⟩
  · rw [if_neg c1]
    obtain ⟨r1, r2, r3, r4, r5, r6, r7, r8, r9⟩ := hrest
    refine ⟨rfl, G', hd, turn ht (fun k _ hh => hh), .inr ⟨rfl, _, _, hap, hst', r1, r2, r3, r4, r5, r6, by rw [r7]; rfl, r8, r9⟩, fun k hk => ?_⟩
    rcases hk with hk | hk | hk | hk | ⟨x, hx, hk⟩ | hk
    · exact .inl (.inl hk)
    · rcases hbl k hk with h1 | h1
      · exact .inl (.inr (.inl h1))
      · exact .inr (by omega)
    · rw [r1] at hk; exact .inl (.inr (.inr (.inl hk)))
    · rcases hnv with h1 | ⟨j, h1, h2⟩
      · rw [h1] at hk; exact .inl (.inr (.inr (.inr (.inl hk))))
      · rw [h1] at hk; injection hk with hk; exact .inr (by omega)
    · rw [hst'] at hx
      rcases List.mem_append.1 hx with hx | hx
      · exact .inl (.inr (.inr (.inr (.inr (.inl ⟨x, hx, hk⟩)))))
      · simp at hx
        subst hx
        exact .inr (hbs k hk)
    · rw [r2, r3, r4, r5] at hk
      exact .inl (.inr (.inr (.inr (.inr (.inr hk)))))

/-- the number of the bytes is stored behind the step -/
theorem DiskAt.minus {w : World} {D : Nat} {G G' : DiskG} {s : NStep} (h : DiskAt w D G') (hs : Stepped G s 0 0 G') (m : Nat) (hm : m ≤ G.used) :
    ∃ G2, DiskAt (w.setCell ⟨D, 4, none⟩ (.int .i64 ((G.used : Int) - (m : Int)))) D G2 ∧ Stepped G s m 0 G2 ∧ G2.own D = G'.own D := by
  rcases hs with ⟨h0, _⟩ | ⟨_, v, bs, a1, a2, a3, a4, a5, a6, a7, a8, a9, a10, a11⟩
  · exact absurd rfl h0
  · refine ⟨{ G' with used := G.used - m }, h.set 4 _ _ ?_ (fun hp => hp.with rfl rfl rfl rfl rfl rfl rfl rfl), .inr ⟨rfl, v, bs, a1, a2, a3, a4, a5, a6, a7, a8, rfl, a10, a11⟩, rfl⟩
    simp [DiskG.cells, topV]
    omega

set_option maxRecDepth 100000 in
set_option maxHeartbeats 4000000 in
theorem remove_any {w : World} {D : Nat} {G : DiskG} {E : Nat → Addr} (h : DiskAt w D G) (he : Env w E) (hn : NumsOk G) (hc : G.crash < 9223372036854775808) (hown : ∀ k, k < 8 → ¬ G.own D k) (hlen : G.steps.length < 1099511627776) (p : ByteArray) (hp : p.size < 4294967281)
    (hfs : ∀ i, i < G.pfs.length → (pfAt G i).bytes.length < 549755813888) (hsum : ∀ x, lookDir G.gc p = some x → lensOf G x.files < 1152921504606846976) (hused : G.used < 1152921504606846976) (hsz : isPath p = true → existsG G.gc p = true → sizeG G p ≤ G.used) :
    Calls Tryz.prog 76 #[.pointer (some ⟨D, 0, none⟩), .string p] w fun r w' =>
      r = .returned (errV E (removeCode G p)) ∧ ∃ G', DiskAt w' D G' ∧ Turn (G.own D) w w' ∧ Stepped G ⟨4, p, ByteArray.empty, 0⟩ (sizeG G p) (removeCode G p) G' ∧ (∀ k, G'.own D k → G.own D k ∨ w.heap.size ≤ k) := by
  have hbel : Below w.heap.size w (w.alloc (.cells #[.string p] 9)) := below_alloc _ _
  have h1 := h.below hbel
  have he1 : Env (w.alloc (.cells #[.string p] 9)) E := he.turn (Turn.of_below (S := fun _ => False) hbel) (fun _ _ h => h)
  have hoff := off_any h1
  obtain ⟨l1, _, _, l4, _⟩ := looks h1 he1.max p hp
  have g0 := he1.off
  have g1 := he1.name
  have g3 := he1.missing
  have z1 : ∀ N, ((w.alloc (.cells #[.string p] 9)).drewN N).heap[w.heap.size]? = some (.cells #[.string p] 9) := fun N => heap_alloc_new w _
  have H1 := Lib.hid h1
  have HB := Lib.hid hbel
  have H0 := Lib.hid h
  cases ho : G.off
  · rw [ho] at hoff
    have hcode : removeCode G p = (if isPath p = false then 2 else if existsG G.gc p = false then 4 else if G.crash = 1 then 1 else 0) := by unfold removeCode; rw [ho, if_neg (by decide)]
    rw [hcode]
    clear hcode
    have L1 := Lib.hid l1
    have L4 := Lib.hid l4
    clear l1 l4
    cases hP : isPath p
    · rw [if_pos rfl]
      rw [hP] at L1
      unfold errV at g1 ⊢
      clear h he hn hc hown hlen hfs hsum hused hsz he1 h1 hbel hp z1
      go_enter Tryz.func76, Tryz.ntmps76
      go_wp2_with (first | (go_at_call 16; refine hoff.mono ?_; rintro r w2 ⟨rfl, rfl⟩) | (go_at_call 91; ((with_reducible refine (L1.out _ (by rfl)).mono ?_); rintro r w2 ⟨rfl, n, rfl⟩)))
      go_ret
      exact ⟨rfl, G, H1.out.below ((Below.refl _ _).drewN n), Turn.of_below (HB.out.drewN n), .inl ⟨by decide, .inl ⟨rfl, .inr (by decide)⟩⟩, fun k hk => .inl hk⟩
    · rw [if_neg (by decide)]
      rw [hP] at L1
      cases hX : existsG G.gc p
      · rw [if_pos rfl]
        rw [hX] at L4
        unfold errV at g3 ⊢
        clear h he hn hc hown hlen hfs hsum hused hsz he1 h1 hbel hp z1
        go_enter Tryz.func76, Tryz.ntmps76
        go_wp2_with (first | (go_at_call 16; refine hoff.mono ?_; rintro r w2 ⟨rfl, rfl⟩) | (go_at_call 91; ((with_reducible refine (L1.out _ (by rfl)).mono ?_); rintro r w2 ⟨rfl, n, rfl⟩)))
        go_quiet (first | exact quiet_plus (L4.out _ (by rfl)) | exact quiet_zero (L4.out _ (by rfl)))
        go_wp2
        go_ret
        exact ⟨rfl, G, H1.out.below ((Below.refl _ _).drewN _), Turn.of_below (HB.out.drewN _), .inl ⟨by decide, .inl ⟨rfl, .inr (by decide)⟩⟩, fun k hk => .inl hk⟩
      · rw [if_neg (by decide)]
        rw [hX] at L4
        have hszu := hsz hP hX
        obtain ⟨Z, hZ⟩ : ∃ Z, sizeG G p = Z := ⟨_, rfl⟩
        rw [hZ] at hszu ⊢
        have hS : ∀ W, Below w.heap.size w W → DiskAt W D G → Calls Tryz.prog 102 #[.pointer (some ⟨D, 0, none⟩), .string p] W fun r w' => r = .returned (.int .i64 (Z : Int)) ∧ Below W.heap.size W w' := fun W hb hd => by
          have := size_any hd (he.turn (Turn.of_below (S := fun _ => False) hb) (fun _ _ h => h)).max hn p hp hfs hsum
          rw [hZ] at this
          exact this
        have hCh : ∀ W, Below w.heap.size w W → W.heap[w.heap.size]? = some (.cells #[.string p] 9) → Calls Tryz.prog 94 #[.pointer (some ⟨D, 0, none⟩), .func (.func 105) #[] #[.pointer (some ⟨w.heap.size, 0, none⟩)]] W fun r w' =>
            r = .returned (errV E (if G.crash = 1 then 1 else 0)) ∧ ∃ G', DiskAt w' D G' ∧ Turn (G.own D) w w' ∧ Stepped G ⟨4, p, ByteArray.empty, 0⟩ 0 (if G.crash = 1 then 1 else 0) G' ∧ (∀ k, G'.own D k → G.own D k ∨ w.heap.size ≤ k) := fun W hb hz =>
          named_step h he hc hown hlen hb (bs := [w.heap.size]) (s := ⟨4, p, ByteArray.empty, 0⟩) (.inr (.inr (.inr ⟨w.heap.size, rfl, rfl, rfl, hz⟩))) (fun b hb => by simp at hb; omega) ⟨fun hk => (by cases hk), hp, (by show ByteArray.empty.size < 4294967281; decide), fun hk => (by cases hk)⟩
        have HS := Lib.hid hS
        have HCH := Lib.hid hCh
        have HSZ := Lib.hid hszu
        clear h he hn hc hown hlen hfs hsum hsz he1 h1 hbel hp hS hCh hszu hZ
        by_cases hcr : G.crash = 1
        · rw [if_pos hcr]
          rw [if_pos hcr] at HCH
          unfold errV at HCH ⊢
          clear hcr
          go_enter Tryz.func76, Tryz.ntmps76
          go_wp2_with (first | (go_at_call 16; refine hoff.mono ?_; rintro r w2 ⟨rfl, rfl⟩) | (go_at_call 91; ((with_reducible refine (L1.out _ (by rfl)).mono ?_); rintro r w2 ⟨rfl, n, rfl⟩)))
          go_quiet (first | exact quiet_plus (L4.out _ (by rfl)) | exact quiet_zero (L4.out _ (by rfl)))
          go_wp2_with fail
          obtain ⟨W, hW⟩ : ∃ W, W = (((w.alloc (.cells #[.string p] 9)).drewN n).drewN nq) := ⟨_, rfl⟩
          rw [← hW]
          have hbW : Below w.heap.size w W.drew := by rw [hW]; exact ((HB.out.drewN n).drewN nq).drew
          have hdW : DiskAt W.drew D G := by rw [hW]; exact H1.out.below ((((Below.refl _ _).drewN n).drewN nq).drew)
          have hcW : W.drew.heap[w.heap.size]? = some (.cells #[.string p] 9) := by rw [hW]; exact heap_alloc_new w _
          have hcW2 : W.drew.cell? ⟨w.heap.size, 0, none⟩ = some (.string p) := by rw [cell_of_row _ _ _ _ _ _ hcW]; rfl
          have HSW := Lib.hid (HS.out W.drew hbW hdW)
          have HBW := Lib.hid hbW
          have HCW := Lib.hid hcW
          clear hW hbW hdW hcW
          refine wp_region_still_tail 4 (by kernel_rfl) (by kernel_rfl) ?_
          simp only [List.take_succ_cons, List.take_zero, List.drop_succ_cons, List.drop_zero]
          change wpStill _ _ W.drew _ _ _
          repeat still_step
          refine wpStill_nil ?_
          change wpList _ _ _ _ _ W.drew
          go_wp2_with (first
            | (go_at_call 102; ((refine HSW.out.mono ?_); rintro r w4 ⟨rfl, hb4⟩; have hz4 : w4.heap[w.heap.size]? = some (.cells #[.string p] 9) := (hb4.block w.heap.size (Array.getElem?_eq_some_iff.1 HCW.out).1).trans HCW.out; have hbw4 : Below w.heap.size w w4 := HBW.out.trans (hb4.mono HBW.out.size)))
            | (go_at_call 94; ((refine (HCH.out w4 hbw4 hz4).mono ?_); rintro r w5 ⟨rfl, G', hd5, ht5, hs5, hk5⟩)))
          go_ret
          rcases hs5 with ⟨_, hr⟩ | ⟨hr, _⟩
          · exact ⟨rfl, G', hd5, ht5, .inl ⟨by decide, hr⟩, hk5⟩
          · cases hr
        · rw [if_neg hcr]
          rw [if_neg hcr] at HCH
          unfold errV at HCH ⊢
          clear hcr
          have husub : IntKind.i64.wrap ((G.used : Int) - (Z : Int)) = (G.used : Int) - (Z : Int) := by rw [IntWalk.i64_in _ (by have := HSZ.out; omega)]
          go_enter Tryz.func76, Tryz.ntmps76
          go_wp2_with (first | (go_at_call 16; refine hoff.mono ?_; rintro r w2 ⟨rfl, rfl⟩) | (go_at_call 91; ((with_reducible refine (L1.out _ (by rfl)).mono ?_); rintro r w2 ⟨rfl, n, rfl⟩)))
          go_quiet (first | exact quiet_plus (L4.out _ (by rfl)) | exact quiet_zero (L4.out _ (by rfl)))
          go_wp2_with fail
          obtain ⟨W, hW⟩ : ∃ W, W = (((w.alloc (.cells #[.string p] 9)).drewN n).drewN nq) := ⟨_, rfl⟩
          rw [← hW]
          have hbW : Below w.heap.size w W.drew := by rw [hW]; exact ((HB.out.drewN n).drewN nq).drew
          have hdW : DiskAt W.drew D G := by rw [hW]; exact H1.out.below ((((Below.refl _ _).drewN n).drewN nq).drew)
          have hcW : W.drew.heap[w.heap.size]? = some (.cells #[.string p] 9) := by rw [hW]; exact heap_alloc_new w _
          have hcW2 : W.drew.cell? ⟨w.heap.size, 0, none⟩ = some (.string p) := by rw [cell_of_row _ _ _ _ _ _ hcW]; rfl
          have HSW := Lib.hid (HS.out W.drew hbW hdW)
          have HBW := Lib.hid hbW
          have HCW := Lib.hid hcW
          clear hW hbW hdW hcW
          refine wp_region_still_tail 4 (by kernel_rfl) (by kernel_rfl) ?_
          simp only [List.take_succ_cons, List.take_zero, List.drop_succ_cons, List.drop_zero]
          change wpStill _ _ W.drew _ _ _
          repeat still_step
          refine wpStill_nil ?_
          change wpList _ _ _ _ _ W.drew
          go_wp2_with (first
            | (go_at_call 102; ((refine HSW.out.mono ?_); rintro r w4 ⟨rfl, hb4⟩; have hz4 : w4.heap[w.heap.size]? = some (.cells #[.string p] 9) := (hb4.block w.heap.size (Array.getElem?_eq_some_iff.1 HCW.out).1).trans HCW.out; have hbw4 : Below w.heap.size w w4 := HBW.out.trans (hb4.mono HBW.out.size)))
            | (go_at_call 94; ((refine (HCH.out w4 hbw4 hz4).mono ?_); rintro r w5 ⟨rfl, G', hd5, ht5, hs5, hk5⟩; have c4 : w5.cell? ⟨D, 4, none⟩ = some (.int .i64 (G.used : Int)) := (by (rcases hs5 with ⟨hr, _⟩ | ⟨_, _, _, _, _, _, _, _, _, _, _, hu, _⟩; exact absurd rfl hr; have := hd5.cell 4; simp only [DiskG.cells, hu] at this; exact this)); have f4 := hd5.fro 4; have HD5 := Lib.hid hd5; have HS5 := Lib.hid hs5; clear hd5 hs5)))
          go_ret
          obtain ⟨G2, hd2, hs2, ho2⟩ := HD5.out.minus HS5.out Z HSZ.out
          exact ⟨rfl, G2, hd2, ht5.set _ _ (fun _ => .inl rfl), hs2, fun k hk => hk5 k (by rw [← ho2]; exact hk)⟩
  · rw [ho] at hoff
    have hcode : removeCode G p = 1 := by unfold removeCode; rw [ho, if_pos rfl]
    rw [hcode]
    unfold errV at g0 ⊢
    have HOF := Lib.hid ho
    clear h he hn hc hown hlen hfs hsum hused hsz he1 h1 hbel hp z1 l1 l4 ho hcode
    go_enter Tryz.func76, Tryz.ntmps76
    go_wp2_with (go_at_call 16; refine hoff.mono ?_; rintro r w2 ⟨rfl, rfl⟩)
    go_ret
    exact ⟨rfl, G, H1.out, Turn.of_below HB.out, .inl ⟨by decide, .inl ⟨rfl, .inl HOF.out⟩⟩, fun k hk => .inl hk⟩

end Go.Proofs.YtmmlefbokplnnaaGreatDoor.Disk

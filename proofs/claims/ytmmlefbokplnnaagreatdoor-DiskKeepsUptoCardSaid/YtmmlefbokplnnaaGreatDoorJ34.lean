/-
  The texts DListF, joined. Own text.
-/
import Derived.Test.YtmmlefbokplnnaaGreatDoorJ33
import Derived.Test.YtmmlefbokplnnaaGreatDoorJ23
set_option linter.unusedVariables false
set_option linter.unusedSimpArgs false
namespace Go.Proofs.YtmmlefbokplnnaaGreatDoor.Disk
open Go.RowKit Go Go.Proofs.YtmmlefbokplnnaaGreatDoor.Base Go.Proofs.YtmmlefbokplnnaaGreatDoor.Map Go.Shelf Go.Sort
open Go.Proofs.YtmmlefbokplnnaaGreatDoor.Lab (cmpS cmpS_ord cmp3 Cmp3 less_cmp str_eq str_ne)

theorem heap_putId {w : World} {g n : Nat} {os : Array Obj} {cur : Array Value} {e : TypeId} (d : Array Value) (hb : w.heap[g]? = some (.cells cur e (0, 0))) :
    (grow (putRow id (Sort.ahead w n) g 0 d) os).heap[g]? = some (.cells (putCells id 0 d cur) e (0, 0)) := by
  have hg : g < w.heap.size := (Array.getElem?_eq_some_iff.1 hb).1
  rw [heap_grow_old _ _ (by simpa using hg)]
  simp [putRow, mapBlock, Sort.ahead, Array.getElem?_modify, hb, onCells]
theorem take_putId (cur : Array Value) (ts : List Value) (h : ts.length ≤ cur.size) : (putCells id 0 ts.toArray cur).toList.take ts.length = ts := by
  apply List.ext_getElem?
  intro j
  by_cases hj : j < ts.length
  · rw [List.getElem?_take_of_lt hj, Array.getElem?_toList]
    simp [putCells, hj, show j < cur.size by omega]
  · rw [List.getElem?_take_eq_none (by omega), List.getElem?_eq_none (by omega)]

/-- one name behind the other -/
def Rising (l : List EntG) : Prop := ∀ i j, i < j → j < l.length → cmpE l[j]! l[i]! ≥ 0

theorem sortE_full (w : World) (v : Value) (l : List EntG) (h : w.ownsRow 0 52 3 v l.length (cellsE l)) (hn : l.length < 4611686018427387904) :
    Calls Tryz.prog 87 #[v, .func (.func 88) #[] #[]] w fun e w' => e = .returned (.tuple #[]) ∧ w.grownBy w' v.ownBlock ∧ ∃ l', l'.Perm l ∧ Rising l' ∧ w'.ownsRow 0 52 3 v l.length (cellsE l') := by
  rcases h.2 with ⟨rfl, h0⟩ | ⟨g, cap, cur, rfl, hb0, h2, h3, h4, h5, h6⟩
  · have hc := AnyF.slices_SortFunc_none Tryz.sortE none 0 (.func (.func 88) #[] #[]) w
    change Calls Tryz.prog 87 _ _ _ at hc
    refine hc.mono fun e w' ⟨e1, e2⟩ => ?_
    subst e2
    have hl0 : l = [] := List.eq_nil_of_length_eq_zero h0
    subst hl0
    exact ⟨e1, ⟨rfl, rfl, rfl, Nat.le_refl _, fun _ _ _ => rfl⟩, [], List.Perm.refl _, fun i j _ hj => by simp at hj, h⟩
  · have eg : ∀ args w, (callFunc 88 args).run Tryz.prog w = .ok (.enter 88 args) w := enters_of Tryz.func88 (by kernel_rfl) rfl
    have hH : HoldsK EntG.cells 3 w g 0 l.toArray := by
      unfold HoldsK
      rw [flatE]
      exact holdsE h2 (by simp only [List.size_toArray, cellsE_length]; exact h6)
    have hc := AnyQ.slices_SortFunc Tryz.sortE 3 Tryz.isAgg52 Tryz.sizeOf52 EntG.cells (fun _ => rfl) (fun x u hu => by unfold EntG.cells at hu; simp at hu; rcases hu with rfl | rfl | rfl <;> rfl) cmpE swoE 88 #[] g 0 cap l.toArray w eg (entries_lays _ _ _ _) hH (Array.getElem?_eq_some_iff.1 h2).1 (by simpa using hn)
    change Calls Tryz.prog 87 _ _ _ at hc
    simp only [List.size_toArray] at hc
    refine hc.mono fun e w' ⟨e1, d', n, os, hp, hs, e2⟩ => ?_
    subst e2
    obtain ⟨l', rfl⟩ : ∃ l' : List EntG, d' = l'.toArray := ⟨d'.toList, by simp⟩
    have hlen : l'.length = l.length := by have := hp.1; simpa using this
    refine ⟨e1, ?_, l', ?_, ?_, ?_⟩
    · unfold sortWorldK putRowK
      exact grown_put _
    · have := hp.2.2
      simp only [List.extract_toArray] at this
      rw [← hlen] at this
      have e2 : l'.extract 0 l'.length = l' := by simp [List.extract]
      have e3 : l.extract 0 l'.length = l := by rw [hlen]; simp [List.extract]
      rw [e2, e3] at this
      exact this
    · intro i j hij hj
      have := hs i j (Nat.zero_le _) hij (by omega)
      unfold ltOf at this
      simp only [decide_eq_false_iff_not] at this
      simpa using this
    · unfold sortWorldK putRowK
      rw [flatE]
      have hcl : (cellsE l').length = l.length * 3 := by rw [cellsE_length, hlen]
      refine ⟨by rw [hcl], .inr ⟨g, cap, _, rfl, hb0, heap_putId _ h2, h3, h4, by simp [putCells, h5], ?_⟩⟩
      rw [← hcl]
      exact take_putId cur _ (by rw [hcl, h5]; omega)

def filesE (G : DiskG) (fs : List (ByteArray × Nat)) : List EntG := fs.map fun q => ⟨q.1, false, ((pfAt G q.2).bytes.length : Int)⟩
def dirsE (ds : List DirG) : List EntG := (ds.filter fun y => decide (y.name.size ≠ 0)).map fun y => ⟨y.name, true, 0⟩
def entsG (G : DiskG) (d : ByteArray) : List EntG := (match lookDir G.gc d with | none => [] | some x => filesE G x.files) ++ (if d.size = 0 then dirsE G.gc.ds else [])
theorem dirsE_append (a b : List DirG) : dirsE (a ++ b) = dirsE a ++ dirsE b := by simp [dirsE]
theorem dirsE_skip {y : DirG} (h : y.name.size = 0) : dirsE [y] = [] := by
  unfold dirsE
  rw [List.filter_cons_of_neg (by rw [decide_eq_true_eq]; exact fun hh => hh h)]
  rfl
theorem dirsE_take {y : DirG} (h : y.name.size ≠ 0) : dirsE [y] = [⟨y.name, true, 0⟩] := by
  unfold dirsE
  rw [List.filter_cons_of_pos (by rw [decide_eq_true_eq]; exact h)]
  rfl
theorem dirsE_perm {a b : List DirG} (h : a.Perm b) : (dirsE a).Perm (dirsE b) := (h.filter _).map _

set_option maxRecDepth 100000 in
set_option maxHeartbeats 4000000 in
theorem entries_dir {w : World} {D : Nat} {G : DiskG} (h : DiskAt w D G) (hn : NumsOk G) (d : ByteArray) (hd : d.size ≠ 0) (x : DirG) (hx : lookDir G.gc d = some x) (hcount : x.files.length < 1099511627776) :
    Calls Tryz.prog 58 #[.pointer (some ⟨D, 0, none⟩), .string d] w fun r w' =>
      ∃ v es, r = .returned v ∧ Below w.heap.size w w' ∧ w'.ownsRow 0 52 3 v es.length (cellsE es) ∧ (∀ k, v.ownBlock = some k → w.heap.size ≤ k) ∧ es.Perm (entsG G d) ∧ Rising es := by
  have hc : w.cell? ⟨D, 0, none⟩ = some (topV G.gc) := h.cell 0
  have hlk := look_dir h.parts.cur d
  have hxm := (lookDir_mem hx).1
  have hM := h.parts.cur.dirs x hxm
  have hfl := hM.lt
  have hv : dirV G.gc d = .map (some x.blk) := by unfold dirV; rw [hx]; rfl
  have hes : entsG G d = filesE G x.files := by unfold entsG; rw [hx, if_neg hd, List.append_nil]
  have he0 : d.toList.isEmpty = false := by
    cases hh : d.toList.isEmpty
    · rfl
    · rw [isEmpty_iff] at hh; exact absurd (by simpa using hh) hd
  have hnm := hn.cur x hxm
  have HD := Lib.hid h
  have HM := Lib.hid hM
  have HNM := Lib.hid hnm
  have HCT := Lib.hid hcount
  have HES := Lib.hid hes
  clear h hn hx hM hxm hnm hcount hd hes
  rw [hv] at hlk
  clear hv
  go_enter Tryz.func58, Tryz.ntmps58
  go_wp2_with (at_range; refine Map.wp_range _ rfl _ rfl Tryz.underlying128 rfl HM.out ?_; intro w1 hr1 hg1 hs1)
  clear hs1
  go_frame
  go_loopg [5] x.files.length (fun r v wr => ∃ (fx ft : List (ByteArray × Nat)) (es : List EntG), r = ft.length ∧ Hid (RangeIs wr x.blk w.heap.size (fileEnts G.ptr fx) (fileEnts G.ptr ft)) ∧ Hid (EntRow w wr v es) ∧ Hid ((fx ++ ft).Perm x.files) ∧ Hid (es = filesE G fx))
  case atStart => exact ⟨[], x.files, [], rfl, hr1, ⟨(Below.refl _ _).grown hg1 (Nat.le_refl _) (fun k hk => by cases hk), World.ownsRow_nil _ _ _ _, fun k hk => by cases hk⟩, List.Perm.refl _, rfl⟩
  case round =>
    obtain ⟨fx, ft, es, rfl, HR, HW, HP, HL⟩ := hrel
    go_wp2_with (at_next; refine Map.wp_next _ rfl _ rfl rfl HR.out ?_ ?_)
    · intro ht0
      have hft : ft = [] := by unfold fileEnts at ht0; simpa using ht0
      subst hft
      have hperm : es.Perm (filesE G x.files) := by
        rw [HL.out]
        have := HP.out
        rw [List.append_nil] at this
        exact this.map _
      have HPM := Lib.hid hperm
      clear hperm
      obtain ⟨ao, cap, rfl⟩ := HW.out.shape
      have hl2 : es.length < 4611686018427387904 := by
        have h1 : es.length = fx.length := by rw [HL.out]; simp [filesE]
        have h2 := HP.out.length_eq
        have h3 := HCT.out
        rw [List.append_nil] at h2
        omega
      have hso := sortE_full wr _ es HW.out.row hl2
      have HSO := Lib.hid hso
      clear hso hl2
      go_wp2_with (go_at_call 87; ((refine HSO.out.mono ?_); rintro r w5 ⟨rfl, hg5, l', hp', hr', ho'⟩))
      go_ret
      have hll : l'.length = es.length := hp'.length_eq
      refine ⟨_, l', rfl, HW.out.below.grown hg5 HW.out.below.size HW.out.new, by rw [hll]; exact ho', HW.out.new, ?_, hr'⟩
      rw [HES.out]
      exact hp'.trans HPM.out
    · intro k v t1 t2 w2 htodo hR2 hg2 hs2 hen
      obtain ⟨y1, y, y2, rfl, rfl, rfl, rfl, rfl⟩ := fileEnts_split htodo
      have hym : y ∈ x.files := HP.out.mem_iff.1 (by simp)
      have hyn := HNM.out y hym
      have hfile := HD.out.parts.files y.2 hyn
      rw [pfAt_eq hyn] at hfile
      have hW2 : EntRow w w2 _ es := ⟨HW.out.below.grown hg2 HW.out.below.size (fun k hk => by injection hk with hk; omega), HW.out.row.kept hg2 (.inr fun e => (HW.out.ne_iter HR.out).1 e.symm), HW.out.new⟩
      have hcell : w2.cell? ⟨G.ptr y.2, 0, none⟩ = some (G.bvs y.2) := (hW2.below.cell (p := ⟨G.ptr y.2, 0, none⟩) hfile.lt).trans hfile.cell0
      obtain ⟨ba, bc, hbv, _⟩ := row_len hfile.bytes
      rw [hbv] at hcell
      have hel : es ++ [⟨y.1, false, ((pfAt G y.2).bytes.length : Int)⟩] = filesE G (fx ++ [y]) := by rw [HL.out]; simp [filesE]
      have hcnt : es.length < 1099511627776 := by
        have h1 : es.length = fx.length := by rw [HL.out]; simp [filesE]
        have h2 := HP.out.length_eq
        have h3 := HCT.out
        rw [List.length_append, List.length_append] at h2
        omega
      generalize (pfAt G y.2).bytes.length = L at *
      obtain ⟨va, vc, hv⟩ := hW2.shape
      subst hv
      obtain ⟨ao', cap', w', hrun, hrow, hkeep⟩ := hW2.add rfl ⟨y.1, false, (L : Int)⟩ (by omega)
      have hR3 : RangeIs w' x.blk w.heap.size (fileEnts G.ptr fx ++ [(y.1, ptrV G.ptr y.2)]) (fileEnts G.ptr y1 ++ fileEnts G.ptr y2) := hR2.kept (hkeep _ hR2.lt.1 (hW2.ne_iter hR2).2) (hkeep _ hR2.lt.2.1 (hW2.ne_iter hR2).1)
      unfold ptrV at hen
      have HRun := Lib.hid hrun
      have HRow := Lib.hid hrow
      have HR3 := Lib.hid hR3
      have HEL := Lib.hid hel
      clear hrun hrow hkeep hR3 hR2 hW2 hg2 hs2 htodo hfile hbv hel
      unfold ptrV
      go_wp2_with (at_builtin; refine Row.append_by rfl (.tmp 22) (.tmp 30) _ rfl _ _ rfl rfl HRun.out ?_)
      go_roundg (y1 ++ y2).length
      case measure => simp
      case rel =>
        refine ⟨fx ++ [y], y1 ++ y2, es ++ [EntG.mk y.1 false (L : Int)], rfl, ?_, HRow.out, ?_, ?_⟩
        · show RangeIs _ _ _ _ _
          have e1 : fileEnts G.ptr (fx ++ [y]) = fileEnts G.ptr fx ++ [(y.1, ptrV G.ptr y.2)] := by simp [fileEnts]
          have e2 : fileEnts G.ptr (y1 ++ y2) = fileEnts G.ptr y1 ++ fileEnts G.ptr y2 := by simp [fileEnts]
          rw [e1, e2]
          exact HR3.out
        · show List.Perm _ _
          refine List.Perm.trans ?_ HP.out
          rw [List.append_assoc]
          exact List.Perm.append_left _ (by show (y :: (y1 ++ y2)).Perm _; exact List.perm_middle.symm)
        · exact HEL.out

set_option maxRecDepth 100000 in
set_option maxHeartbeats 4000000 in
theorem entries_none {w : World} {D : Nat} {G : DiskG} (h : DiskAt w D G) (d : ByteArray) (hd : d.size = 0) (hf : G.gc.fm = none) :
    Calls Tryz.prog 58 #[.pointer (some ⟨D, 0, none⟩), .string d] w fun r w' =>
      ∃ v es, r = .returned v ∧ Below w.heap.size w w' ∧ w'.ownsRow 0 52 3 v es.length (cellsE es) ∧ (∀ k, v.ownBlock = some k → w.heap.size ≤ k) ∧ es.Perm (entsG G d) ∧ Rising es := by
  have hds := h.parts.cur.none hf
  have hes : entsG G d = [] := by
    have hx : lookDir G.gc d = none := by unfold lookDir; rw [hds]; rfl
    unfold entsG; rw [hx, if_pos hd, hds]; rfl
  have hc : w.cell? ⟨D, 0, none⟩ = some (.map none) := by have := h.cell 0; simp only [DiskG.cells, topV, hf] at this; exact this
  have hlk : (Instr.lookup 58 (.map none) (.string d) false).run Tryz.prog w = .ok (.map none) w := lookup_nil Tryz.underlying58 Tryz.underlying9 zero_files d w
  have he0 : d.toList.isEmpty = true := by rw [isEmpty_iff]; simpa using hd
  have hrn := fun W => run_range_nilMap (P := Tryz.prog) W 128 _ _ Tryz.underlying128
  have hrn2 := fun W => run_range_nilMap (P := Tryz.prog) W 58 _ _ Tryz.underlying58
  have hnn : ∀ ty, (Instr.next (.pointer (some ⟨w.heap.size, 0, none⟩)) false ty).run Tryz.prog (w.alloc (.mapIter none 0 #[] 0)) = .ok (.tuple #[.bool false]) (w.alloc (.mapIter none 0 #[] 0)) := fun ty => run_next_nilMap (P := Tryz.prog) w ty 0 0 #[]
  have hnn2 : ∀ ty, (Instr.next (.pointer (some ⟨w.heap.size + 1, 0, none⟩)) false ty).run Tryz.prog ((w.alloc (.mapIter none 0 #[] 0)).alloc (.mapIter none 0 #[] 0)) = .ok (.tuple #[.bool false]) ((w.alloc (.mapIter none 0 #[] 0)).alloc (.mapIter none 0 #[] 0)) := fun ty => by
    have := run_next_nilMap (P := Tryz.prog) (w.alloc (.mapIter none 0 #[] 0)) ty 0 0 #[]
    simpa using this
  have hca : (w.alloc (.mapIter none 0 #[] 0)).cell? ⟨D, 0, none⟩ = some (.map none) := (World.cell?_of_block (w := w) (heap_alloc_old _ _ (World.block_lt_of_cell? w _ hc))).trans hc
  have hso := sortE_full ((w.alloc (.mapIter none 0 #[] 0)).alloc (.mapIter none 0 #[] 0)) (.slice none 0 0) [] (World.ownsRow_nil _ _ _ _) (by decide)
  have HSO := Lib.hid hso
  have HES := Lib.hid hes
  clear h hd hf hds hes hso
  go_enter Tryz.func58, Tryz.ntmps58
  go_wp2_with fail
  refine wp_loop_rounds 1 ?_
  rw [rounds_succ]
  go_wp2_with fail
  refine wp_loop_rounds 1 ?_
  rw [rounds_succ]
  go_wp2_with (go_at_call 87; ((refine HSO.out.mono ?_); rintro r w5 ⟨rfl, hg5, l', hp', hr', ho'⟩))
  go_ret
  have hb : Below w.heap.size w ((w.alloc (.mapIter none 0 #[] 0)).alloc (.mapIter none 0 #[] 0)) := (below_alloc _ _).alloc (by simp) _
  have hll : l' = [] := List.eq_nil_of_length_eq_zero hp'.length_eq
  subst hll
  exact ⟨_, [], rfl, hb.grown hg5 hb.size (fun k hk => (by cases hk)), ho', fun k hk => (by cases hk), (by rw [HES.out]), hr'⟩

/-- the second loop's state -/
structure DirRound (w wr : World) (fm r : Nat) (ds : List DirG) (v : Value) (es0 es : List EntG) (dx dt : List DirG) : Prop where
  range : RangeIs wr fm r (dirEnts dx) (dirEnts dt)
  row : EntRow w wr v es
  perm : (dx ++ dt).Perm ds
  ents : es = es0 ++ dirsE dx

set_option maxRecDepth 100000 in
set_option maxHeartbeats 4000000 in
theorem entries_top0 {w : World} {D : Nat} {G : DiskG} (h : DiskAt w D G) (d : ByteArray) (hd : d.size = 0) {fm : Nat} (hf : G.gc.fm = some fm) (hx : lookDir G.gc d = none) (hdcount : G.gc.ds.length < 1099511627776) :
    Calls Tryz.prog 58 #[.pointer (some ⟨D, 0, none⟩), .string d] w fun r w' =>
      ∃ v es, r = .returned v ∧ Below w.heap.size w w' ∧ w'.ownsRow 0 52 3 v es.length (cellsE es) ∧ (∀ k, v.ownBlock = some k → w.heap.size ≤ k) ∧ es.Perm (entsG G d) ∧ Rising es := by
  have hc : w.cell? ⟨D, 0, none⟩ = some (.map (some fm)) := by have := h.cell 0; simp only [DiskG.cells, topV, hf] at this; exact this
  have hTop : MapIs w fm (dirEnts G.gc.ds) := h.parts.cur.top fm hf
  have hfml := hTop.lt
  have he0 : d.toList.isEmpty = true := by rw [isEmpty_iff]; simpa using hd
  have hlk : (Instr.lookup 58 (.map (some fm)) (.string d) false).run Tryz.prog w = .ok (dirV G.gc d) w := by have := look_dir h.parts.cur d; simp only [topV, hf] at this; exact this
  have HTOP := Lib.hid hTop
  have HDC := Lib.hid hdcount
  have hes : entsG G d = [] ++ dirsE G.gc.ds := by unfold entsG; rw [hx, if_pos hd]
  have hv : dirV G.gc d = .map none := by unfold dirV; rw [hx]; rfl
  rw [hv] at hlk
  have hrn := fun W => run_range_nilMap (P := Tryz.prog) W 128 _ _ Tryz.underlying128
  have hnn : ∀ ty, (Instr.next (.pointer (some ⟨w.heap.size, 0, none⟩)) false ty).run Tryz.prog (w.alloc (.mapIter none 0 #[] 0)) = .ok (.tuple #[.bool false]) (w.alloc (.mapIter none 0 #[] 0)) := fun ty => run_next_nilMap (P := Tryz.prog) w ty 0 0 #[]
  have HES := Lib.hid hes
  clear h hd hf hx hdcount hTop hes hv
  go_enter Tryz.func58, Tryz.ntmps58
  go_wp2_with fail
  refine wp_loop_rounds 1 ?_
  rw [rounds_succ]
  have hca : (w.alloc (.mapIter none 0 #[] 0)).cell? ⟨D, 0, none⟩ = some (.map (some fm)) := (World.cell?_of_block (w := w) (heap_alloc_old _ _ (World.block_lt_of_cell? w _ hc))).trans hc
  go_wp2_with (at_range; refine Map.wp_range _ rfl _ rfl Tryz.underlying58 rfl (HTOP.out.of_block (heap_alloc_old _ _ HTOP.out.lt)) ?_; intro w6 hr6 hg6 hs6)
  have HBB : Hid (EntRow w (w.alloc (.mapIter none 0 #[] 0)) (.slice none 0 0) []) := ⟨below_alloc _ _, World.ownsRow_nil _ _ _ _, fun k hk => by cases hk⟩
  have HC0 : Hid (([] : List EntG).length < 1099511627776) := by show _ < _; simp
  clear hs6
  obtain ⟨IT, hIT⟩ : ∃ IT, (w.alloc (.mapIter none 0 #[] 0)).heap.size = IT := ⟨_, rfl⟩
  rw [hIT] at hr6 ⊢
  have HIT := Lib.hid hIT
  have HR6 := Lib.hid hr6
  clear hr6 hIT
  go_frame
  go_loopg [5] G.gc.ds.length (fun r v wq => ∃ (dx dt : List DirG) (es : List EntG), r = dt.length ∧ Hid (DirRound w wq fm IT G.gc.ds v ([]) es dx dt))
  case atStart => exact ⟨[], G.gc.ds, [], rfl, DirRound.mk HR6.out ⟨HBB.out.below.grown hg6 HBB.out.below.size (fun k hk => (by cases hk)), HBB.out.row.kept hg6 ((Classical.em _).elim (fun e => .inl e) (fun e => .inr e)), HBB.out.new⟩ (List.Perm.refl _) (by simp [dirsE])⟩
  case round =>
    obtain ⟨dx, dt, es, rfl, HQ⟩ := hrel
    go_wp2_with (at_next; go_loud (refine Map.wp_next _ rfl _ rfl rfl HQ.out.range ?_ ?_))
    · intro ht0
      have hdt : dt = [] := by unfold dirEnts at ht0; simpa using ht0
      subst hdt
      have hperm2 : es.Perm (entsG G d) := by
        rw [HQ.out.ents, HES.out]
        refine List.Perm.append (List.Perm.refl _) (dirsE_perm ?_)
        have := HQ.out.perm
        rwa [List.append_nil] at this
      obtain ⟨ao2, cap2, rfl⟩ := HQ.out.row.shape
      have hlen2 : es.length < 4611686018427387904 := by
        rw [HQ.out.ents, List.length_append]
        have h1 : (dirsE dx).length ≤ dx.length := by unfold dirsE; rw [List.length_map]; exact List.length_filter_le _ _
        have h2 := HQ.out.perm.length_eq
        have h3 := HDC.out
        have h4 := HC0.out
        rw [List.append_nil] at h2
        omega
      have hso := sortE_full wr _ es HQ.out.row.row hlen2
      have HSO := Lib.hid hso
      have HPM2 := Lib.hid hperm2
      clear hso hperm2 hlen2
      go_wp2_with (go_at_call 87; ((refine HSO.out.mono ?_); rintro r w5 ⟨rfl, hg5, l', hp', hr', ho'⟩))
      go_ret
      have hll : l'.length = es.length := hp'.length_eq
      exact ⟨_, l', rfl, HQ.out.row.below.grown hg5 HQ.out.row.below.size HQ.out.row.new, by rw [hll]; exact ho', HQ.out.row.new, hp'.trans HPM2.out, hr'⟩
    · intro k v t1 t2 w7 htodo hR7 hg7 hs7 hen7
      obtain ⟨y1, y, y2, rfl, rfl, rfl, rfl, rfl⟩ := dirEnts_split htodo
      have hW7 : EntRow w w7 _ es := ⟨HQ.out.row.below.grown hg7 HQ.out.row.below.size (fun k hk => by injection hk with hk; have h1 := HBB.out.below.size; have h2 := HIT.out; omega), HQ.out.row.row.kept hg7 (.inr fun e => (HQ.out.row.ne_iter HQ.out.range).1 e.symm), HQ.out.row.new⟩
      have hcnt : es.length < 2199023255552 := by
        rw [HQ.out.ents, List.length_append]
        have h1 : (dirsE dx).length ≤ dx.length := by unfold dirsE; rw [List.length_map]; exact List.length_filter_le _ _
        have h2 := HQ.out.perm.length_eq
        have h3 := HDC.out
        have h4 := HC0.out
        rw [List.length_append] at h2
        omega
      have hpe : (dx ++ [y] ++ (y1 ++ y2)).Perm G.gc.ds := by
        refine List.Perm.trans ?_ HQ.out.perm
        rw [List.append_assoc]
        exact List.Perm.append_left _ (by show (y :: (y1 ++ y2)).Perm _; exact List.perm_middle.symm)
      have e1 : dirEnts (dx ++ [y]) = dirEnts dx ++ [(y.name, .map (some y.blk))] := by simp [dirEnts]
      have e2 : dirEnts (y1 ++ y2) = dirEnts y1 ++ dirEnts y2 := by simp [dirEnts]
      have hde := HQ.out.ents
      have HDE := Lib.hid hde
      have HPE := Lib.hid hpe
      have HE1 := Lib.hid e1
      have HE2 := Lib.hid e2
      by_cases hy0 : y.name.size = 0
      · have hem : y.name.toList.isEmpty = true := by rw [isEmpty_iff]; simpa using hy0
        have hdn : dirsE (dx ++ [y]) = dirsE dx := by rw [dirsE_append, dirsE_skip hy0, List.append_nil]
        have HR7 := Lib.hid hR7
        have HW7 := Lib.hid hW7
        have HDN := Lib.hid hdn
        clear hR7 hW7 hg7 hs7 htodo hcnt hpe e1 e2 hde hdn hy0
        go_wp2
        go_roundg (y1 ++ y2).length
        case measure => simp
        case rel => exact ⟨dx ++ [y], y1 ++ y2, es, rfl, DirRound.mk (by rw [HE1.out, HE2.out]; exact HR7.out) HW7.out HPE.out (by rw [HDN.out]; exact HDE.out)⟩
      · have hem : y.name.toList.isEmpty = false := by
          cases hh : y.name.toList.isEmpty
          · rfl
          · rw [isEmpty_iff] at hh; exact absurd (by simpa using hh) hy0
        have hdn : dirsE (dx ++ [y]) = dirsE dx ++ [⟨y.name, true, 0⟩] := by rw [dirsE_append, dirsE_take hy0]
        obtain ⟨va, vc, hv⟩ := hW7.shape
        subst hv
        obtain ⟨ao', cap', w', hrun, hrow, hkeep⟩ := hW7.add rfl ⟨y.name, true, 0⟩ (by omega)
        have hR8 : RangeIs w' fm IT (dirEnts dx ++ [(y.name, .map (some y.blk))]) (dirEnts y1 ++ dirEnts y2) := hR7.kept (hkeep _ hR7.lt.1 (hW7.ne_iter hR7).2) (hkeep _ hR7.lt.2.1 (hW7.ne_iter hR7).1)
        have HRun := Lib.hid hrun
        have HRow := Lib.hid hrow
        have HR8 := Lib.hid hR8
        have HDN := Lib.hid hdn
        clear hrun hrow hkeep hR8 hR7 hW7 hg7 hs7 htodo hpe e1 e2 hde hdn hy0
        go_wp2_with (at_builtin; refine Row.append_by rfl (.tmp 46) (.tmp 49) _ rfl _ _ rfl rfl HRun.out ?_)
        go_roundg (y1 ++ y2).length
        case measure => simp
        case rel => exact ⟨dx ++ [y], y1 ++ y2, es ++ [⟨y.name, true, 0⟩], rfl, DirRound.mk (by rw [HE1.out, HE2.out]; exact HR8.out) HRow.out HPE.out (by rw [HDN.out, HDE.out, List.append_assoc])⟩

set_option maxRecDepth 100000 in
set_option maxHeartbeats 4000000 in
theorem entries_top1 {w : World} {D : Nat} {G : DiskG} (h : DiskAt w D G) (hn : NumsOk G) (d : ByteArray) (hd : d.size = 0) {fm : Nat} (hf : G.gc.fm = some fm) (x : DirG) (hx : lookDir G.gc d = some x) (hcount : x.files.length < 1099511627776) (hdcount : G.gc.ds.length < 1099511627776) :
    Calls Tryz.prog 58 #[.pointer (some ⟨D, 0, none⟩), .string d] w fun r w' =>
      ∃ v es, r = .returned v ∧ Below w.heap.size w w' ∧ w'.ownsRow 0 52 3 v es.length (cellsE es) ∧ (∀ k, v.ownBlock = some k → w.heap.size ≤ k) ∧ es.Perm (entsG G d) ∧ Rising es := by
  have hc : w.cell? ⟨D, 0, none⟩ = some (.map (some fm)) := by have := h.cell 0; simp only [DiskG.cells, topV, hf] at this; exact this
  have hTop : MapIs w fm (dirEnts G.gc.ds) := h.parts.cur.top fm hf
  have hfml := hTop.lt
  have he0 : d.toList.isEmpty = true := by rw [isEmpty_iff]; simpa using hd
  have hlk : (Instr.lookup 58 (.map (some fm)) (.string d) false).run Tryz.prog w = .ok (dirV G.gc d) w := by have := look_dir h.parts.cur d; simp only [topV, hf] at this; exact this
  have HTOP := Lib.hid hTop
  have HDC := Lib.hid hdcount
  have hes : entsG G d = filesE G x.files ++ dirsE G.gc.ds := by unfold entsG; rw [hx, if_pos hd]
  have hv : dirV G.gc d = .map (some x.blk) := by unfold dirV; rw [hx]; rfl
  rw [hv] at hlk
  have hxm := (lookDir_mem hx).1
  have hM := h.parts.cur.dirs x hxm
  have hnm := hn.cur x hxm
  have HD := Lib.hid h
  have HM := Lib.hid hM
  have HNM := Lib.hid hnm
  have HCT := Lib.hid hcount
  have HES := Lib.hid hes
  clear h hn hd hf hx hM hxm hnm hcount hdcount hTop hes hv
  go_enter Tryz.func58, Tryz.ntmps58
  go_wp2_with (at_range; refine Map.wp_range _ rfl _ rfl Tryz.underlying128 rfl HM.out ?_; intro w1 hr1 hg1 hs1)
  clear hs1
  go_frame
  go_loopg [5] x.files.length (fun r v wr => ∃ (fx ft : List (ByteArray × Nat)) (es : List EntG), r = ft.length ∧ Hid (RangeIs wr x.blk w.heap.size (fileEnts G.ptr fx) (fileEnts G.ptr ft)) ∧ Hid (EntRow w wr v es) ∧ Hid ((fx ++ ft).Perm x.files) ∧ Hid (es = filesE G fx))
  case atStart => exact ⟨[], x.files, [], rfl, hr1, ⟨(Below.refl _ _).grown hg1 (Nat.le_refl _) (fun k hk => by cases hk), World.ownsRow_nil _ _ _ _, fun k hk => by cases hk⟩, List.Perm.refl _, rfl⟩
  case round =>
    obtain ⟨fx, ft, es, rfl, HR, HW, HP, HL⟩ := hrel
    go_wp2_with (at_next; refine Map.wp_next _ rfl _ rfl rfl HR.out ?_ ?_)
    · intro ht0
      have hft : ft = [] := by unfold fileEnts at ht0; simpa using ht0
      subst hft
      have hperm : es.Perm (filesE G x.files) := by
        rw [HL.out]
        have := HP.out
        rw [List.append_nil] at this
        exact this.map _
      have HPM := Lib.hid hperm
      clear hperm
      obtain ⟨ao, cap, rfl⟩ := HW.out.shape
      obtain ⟨WB, hWB⟩ : ∃ WB : World, WB = wr := ⟨_, rfl⟩
      subst hWB
      have hcB : WB.cell? ⟨D, 0, none⟩ = some (.map (some fm)) := (HW.out.below.cell (p := ⟨D, 0, none⟩) (World.block_lt_of_cell? w _ hc)).trans hc
      have hMB : MapIs WB fm (dirEnts G.gc.ds) := HTOP.out.of_block (HW.out.below.block _ HTOP.out.lt)
      have hcnt0 : es.length < 1099511627776 := by
        have h1 : es.length = fx.length := by rw [HL.out]; simp [filesE]
        have h2 := HP.out.length_eq
        have h3 := HCT.out
        rw [List.append_nil] at h2
        omega
      obtain ⟨ES0, hES0⟩ : ∃ ES0, ES0 = es := ⟨_, rfl⟩
      subst hES0
      have HMB := Lib.hid hMB
      have HBB := HW
      have HC0 := Lib.hid hcnt0
      clear hMB hcnt0 HW
      go_wp2_with (at_range; refine Map.wp_range _ rfl _ rfl Tryz.underlying58 rfl HMB.out ?_; intro w6 hr6 hg6 hs6)
      clear hs6
      obtain ⟨IT, hIT⟩ : ∃ IT, WB.heap.size = IT := ⟨_, rfl⟩
      rw [hIT] at hr6 ⊢
      have HIT := Lib.hid hIT
      have HR6 := Lib.hid hr6
      clear hr6 hIT
      go_frame
      go_loopg [5] G.gc.ds.length (fun r v wq => ∃ (dx dt : List DirG) (es : List EntG), r = dt.length ∧ Hid (DirRound w wq fm IT G.gc.ds v (ES0) es dx dt))
      case atStart => exact ⟨[], G.gc.ds, ES0, rfl, DirRound.mk HR6.out ⟨HBB.out.below.grown hg6 HBB.out.below.size (fun k hk => (by cases hk)), HBB.out.row.kept hg6 ((Classical.em _).elim (fun e => .inl e) (fun e => .inr e)), HBB.out.new⟩ (List.Perm.refl _) (by simp [dirsE])⟩
      case round =>
        obtain ⟨dx, dt, es, rfl, HQ⟩ := hrel
        go_wp2_with (at_next; go_loud (refine Map.wp_next _ rfl _ rfl rfl HQ.out.range ?_ ?_))
        · intro ht0
          have hdt : dt = [] := by unfold dirEnts at ht0; simpa using ht0
          subst hdt
          have hperm2 : es.Perm (entsG G d) := by
            rw [HQ.out.ents, HES.out]
            refine List.Perm.append HPM.out (dirsE_perm ?_)
            have := HQ.out.perm
            rwa [List.append_nil] at this
          obtain ⟨ao2, cap2, rfl⟩ := HQ.out.row.shape
          have hlen2 : es.length < 4611686018427387904 := by
            rw [HQ.out.ents, List.length_append]
            have h1 : (dirsE dx).length ≤ dx.length := by unfold dirsE; rw [List.length_map]; exact List.length_filter_le _ _
            have h2 := HQ.out.perm.length_eq
            have h3 := HDC.out
            have h4 := HC0.out
            rw [List.append_nil] at h2
            omega
          have hso := sortE_full wr _ es HQ.out.row.row hlen2
          have HSO := Lib.hid hso
          have HPM2 := Lib.hid hperm2
          clear hso hperm2 hlen2
          go_wp2_with (go_at_call 87; ((refine HSO.out.mono ?_); rintro r w5 ⟨rfl, hg5, l', hp', hr', ho'⟩))
          go_ret
          have hll : l'.length = es.length := hp'.length_eq
          exact ⟨_, l', rfl, HQ.out.row.below.grown hg5 HQ.out.row.below.size HQ.out.row.new, by rw [hll]; exact ho', HQ.out.row.new, hp'.trans HPM2.out, hr'⟩
        · intro k v t1 t2 w7 htodo hR7 hg7 hs7 hen7
          obtain ⟨y1, y, y2, rfl, rfl, rfl, rfl, rfl⟩ := dirEnts_split htodo
          have hW7 : EntRow w w7 _ es := ⟨HQ.out.row.below.grown hg7 HQ.out.row.below.size (fun k hk => by injection hk with hk; have h1 := HBB.out.below.size; have h2 := HIT.out; omega), HQ.out.row.row.kept hg7 (.inr fun e => (HQ.out.row.ne_iter HQ.out.range).1 e.symm), HQ.out.row.new⟩
          have hcnt : es.length < 2199023255552 := by
            rw [HQ.out.ents, List.length_append]
            have h1 : (dirsE dx).length ≤ dx.length := by unfold dirsE; rw [List.length_map]; exact List.length_filter_le _ _
            have h2 := HQ.out.perm.length_eq
            have h3 := HDC.out
            have h4 := HC0.out
            rw [List.length_append] at h2
            omega
          have hpe : (dx ++ [y] ++ (y1 ++ y2)).Perm G.gc.ds := by
            refine List.Perm.trans ?_ HQ.out.perm
            rw [List.append_assoc]
            exact List.Perm.append_left _ (by show (y :: (y1 ++ y2)).Perm _; exact List.perm_middle.symm)
          have e1 : dirEnts (dx ++ [y]) = dirEnts dx ++ [(y.name, .map (some y.blk))] := by simp [dirEnts]
          have e2 : dirEnts (y1 ++ y2) = dirEnts y1 ++ dirEnts y2 := by simp [dirEnts]
          have hde := HQ.out.ents
          have HDE := Lib.hid hde
          have HPE := Lib.hid hpe
          have HE1 := Lib.hid e1
          have HE2 := Lib.hid e2
          by_cases hy0 : y.name.size = 0
          · have hem : y.name.toList.isEmpty = true := by rw [isEmpty_iff]; simpa using hy0
            have hdn : dirsE (dx ++ [y]) = dirsE dx := by rw [dirsE_append, dirsE_skip hy0, List.append_nil]
            have HR7 := Lib.hid hR7
            have HW7 := Lib.hid hW7
            have HDN := Lib.hid hdn
            clear hR7 hW7 hg7 hs7 htodo hcnt hpe e1 e2 hde hdn hy0
            go_wp2
            go_roundg (y1 ++ y2).length
            case measure => simp
            case rel => exact ⟨dx ++ [y], y1 ++ y2, es, rfl, DirRound.mk (by rw [HE1.out, HE2.out]; exact HR7.out) HW7.out HPE.out (by rw [HDN.out]; exact HDE.out)⟩
          · have hem : y.name.toList.isEmpty = false := by
              cases hh : y.name.toList.isEmpty
              · rfl
              · rw [isEmpty_iff] at hh; exact absurd (by simpa using hh) hy0
            have hdn : dirsE (dx ++ [y]) = dirsE dx ++ [⟨y.name, true, 0⟩] := by rw [dirsE_append, dirsE_take hy0]
            obtain ⟨va, vc, hv⟩ := hW7.shape
            subst hv
            obtain ⟨ao', cap', w', hrun, hrow, hkeep⟩ := hW7.add rfl ⟨y.name, true, 0⟩ (by omega)
            have hR8 : RangeIs w' fm IT (dirEnts dx ++ [(y.name, .map (some y.blk))]) (dirEnts y1 ++ dirEnts y2) := hR7.kept (hkeep _ hR7.lt.1 (hW7.ne_iter hR7).2) (hkeep _ hR7.lt.2.1 (hW7.ne_iter hR7).1)
            have HRun := Lib.hid hrun
            have HRow := Lib.hid hrow
            have HR8 := Lib.hid hR8
            have HDN := Lib.hid hdn
            clear hrun hrow hkeep hR8 hR7 hW7 hg7 hs7 htodo hpe e1 e2 hde hdn hy0
            go_wp2_with (at_builtin; refine Row.append_by rfl (.tmp 46) (.tmp 49) _ rfl _ _ rfl rfl HRun.out ?_)
            go_roundg (y1 ++ y2).length
            case measure => simp
            case rel => exact ⟨dx ++ [y], y1 ++ y2, es ++ [⟨y.name, true, 0⟩], rfl, DirRound.mk (by rw [HE1.out, HE2.out]; exact HR8.out) HRow.out HPE.out (by rw [HDN.out, HDE.out, List.append_assoc])⟩
    · intro k v t1 t2 w2 htodo hR2 hg2 hs2 hen
      obtain ⟨y1, y, y2, rfl, rfl, rfl, rfl, rfl⟩ := fileEnts_split htodo
      have hym : y ∈ x.files := HP.out.mem_iff.1 (by simp)
      have hyn := HNM.out y hym
      have hfile := HD.out.parts.files y.2 hyn
      rw [pfAt_eq hyn] at hfile
      have hW2 : EntRow w w2 _ es := ⟨HW.out.below.grown hg2 HW.out.below.size (fun k hk => by injection hk with hk; omega), HW.out.row.kept hg2 (.inr fun e => (HW.out.ne_iter HR.out).1 e.symm), HW.out.new⟩
      have hcell : w2.cell? ⟨G.ptr y.2, 0, none⟩ = some (G.bvs y.2) := (hW2.below.cell (p := ⟨G.ptr y.2, 0, none⟩) hfile.lt).trans hfile.cell0
      obtain ⟨ba, bc, hbv, _⟩ := row_len hfile.bytes
      rw [hbv] at hcell
      have hel : es ++ [⟨y.1, false, ((pfAt G y.2).bytes.length : Int)⟩] = filesE G (fx ++ [y]) := by rw [HL.out]; simp [filesE]
      have hcnt : es.length < 1099511627776 := by
        have h1 : es.length = fx.length := by rw [HL.out]; simp [filesE]
        have h2 := HP.out.length_eq
        have h3 := HCT.out
        rw [List.length_append, List.length_append] at h2
        omega
      generalize (pfAt G y.2).bytes.length = L at *
      obtain ⟨va, vc, hv⟩ := hW2.shape
      subst hv
      obtain ⟨ao', cap', w', hrun, hrow, hkeep⟩ := hW2.add rfl ⟨y.1, false, (L : Int)⟩ (by omega)
      have hR3 : RangeIs w' x.blk w.heap.size (fileEnts G.ptr fx ++ [(y.1, ptrV G.ptr y.2)]) (fileEnts G.ptr y1 ++ fileEnts G.ptr y2) := hR2.kept (hkeep _ hR2.lt.1 (hW2.ne_iter hR2).2) (hkeep _ hR2.lt.2.1 (hW2.ne_iter hR2).1)
      unfold ptrV at hen
      have HRun := Lib.hid hrun
      have HRow := Lib.hid hrow
      have HR3 := Lib.hid hR3
      have HEL := Lib.hid hel
      clear hrun hrow hkeep hR3 hR2 hW2 hg2 hs2 htodo hfile hbv hel
      unfold ptrV
      go_wp2_with (at_builtin; refine Row.append_by rfl (.tmp 22) (.tmp 30) _ rfl _ _ rfl rfl HRun.out ?_)
      go_roundg (y1 ++ y2).length
      case measure => simp
      case rel =>
        refine ⟨fx ++ [y], y1 ++ y2, es ++ [EntG.mk y.1 false (L : Int)], rfl, ?_, HRow.out, ?_, ?_⟩
        · show RangeIs _ _ _ _ _
          have e1 : fileEnts G.ptr (fx ++ [y]) = fileEnts G.ptr fx ++ [(y.1, ptrV G.ptr y.2)] := by simp [fileEnts]
          have e2 : fileEnts G.ptr (y1 ++ y2) = fileEnts G.ptr y1 ++ fileEnts G.ptr y2 := by simp [fileEnts]
          rw [e1, e2]
          exact HR3.out
        · show List.Perm _ _
          refine List.Perm.trans ?_ HP.out
          rw [List.append_assoc]
          exact List.Perm.append_left _ (by show (y :: (y1 ++ y2)).Perm _; exact List.perm_middle.symm)
        · exact HEL.out

theorem entries_full {w : World} {D : Nat} {G : DiskG} (h : DiskAt w D G) (hn : NumsOk G) (d : ByteArray) (hcount : ∀ x, lookDir G.gc d = some x → x.files.length < 1099511627776) (hdcount : G.gc.ds.length < 1099511627776) (hf : isFolderG G.gc d = true) :
    Calls Tryz.prog 58 #[.pointer (some ⟨D, 0, none⟩), .string d] w fun r w' =>
      ∃ v es, r = .returned v ∧ Below w.heap.size w w' ∧ w'.ownsRow 0 52 3 v es.length (cellsE es) ∧ (∀ k, v.ownBlock = some k → w.heap.size ≤ k) ∧ es.Perm (entsG G d) ∧ Rising es := by
  by_cases hd : d.size = 0
  · cases hfm : G.gc.fm with
    | none => exact entries_none h d hd hfm
    | some fm =>
      cases hx : lookDir G.gc d with
      | none => exact entries_top0 h d hd hfm hx hdcount
      | some x => exact entries_top1 h hn d hd hfm x hx (hcount x hx) hdcount
  · cases hx : lookDir G.gc d with
    | none => unfold isFolderG at hf; rw [hx] at hf; simp at hf; exact absurd (by rw [hf]; rfl) hd
    | some x => exact entries_dir h hn d hd x hx (hcount x hx)

def listCodeG (G : DiskG) (d : ByteArray) : Nat :=
  if G.off then 1 else if d.size ≠ 0 ∧ isName d = false then 2 else if (fileOf G.gc d).isSome = true then 3 else if isFolderG G.gc d = false then 4 else 0

set_option maxRecDepth 100000 in
set_option maxHeartbeats 4000000 in
theorem List_full {w : World} {D : Nat} {G : DiskG} {E : Nat → Addr} (h : DiskAt w D G) (he : Env w E) (hn : NumsOk G) (d : ByteArray) (hs : d.size < 4294967281) (hcount : ∀ x, lookDir G.gc d = some x → x.files.length < 1099511627776) (hdcount : G.gc.ds.length < 1099511627776) :
    Calls Tryz.prog 17 #[.pointer (some ⟨D, 0, none⟩), .string d] w fun r w' =>
      ∃ v ev es, r = .returned (.tuple #[v, ev]) ∧ ErrAt w' E ev (listCodeG G d) "list".toUTF8 d ∧ Below w.heap.size w w' ∧ w'.ownsRow 0 52 3 v es.length (cellsE es) ∧ (∀ k, v.ownBlock = some k → w.heap.size ≤ k) ∧
        ((listCodeG G d ≠ 0 ∧ es = []) ∨ (listCodeG G d = 0 ∧ es.Perm (entsG G d) ∧ Rising es)) := by
  have hoff := off_any h
  obtain ⟨_, _, l3, _, l5⟩ := looks h he.max d hs
  have l3 := fun k => l3 (w.drewN k) d rfl
  have l5 := l5 w rfl
  have lN := fun W => (isName_any d (by omega) W)
  have h2 := fun c W => refused_err ⟨#[108, 105, 115, 116]⟩ d E (c + 1) W
  have hfin : isFolderG G.gc d = true → ∀ k, Calls Tryz.prog 58 #[.pointer (some ⟨D, 0, none⟩), .string d] (w.drewN k) _ := fun hf k => entries_full (h.below ((Below.refl _ _).drewN k)) hn d hcount hdcount hf
  have g0 := he.off
  have g1 := he.name
  have g2 : ∀ k, (w.drewN k).cell? ⟨2, 0, none⟩ = some (errV E 3) := fun k => he.kind
  have g3 : ∀ k, (w.drewN k).cell? ⟨3, 0, none⟩ = some (errV E 4) := fun k => he.missing
  have hem := isEmpty_iff d
  have HD := Lib.hid h
  have H2 := Lib.hid h2
  have L3 := Lib.hid l3
  have L5 := l5
  clear l5
  have LN := Lib.hid lN
  unfold errV at H2 g0 g1 g2 g3
  unfold listCodeG
  clear h he hn h2 hs hcount hdcount l3 lN
  have fin0 : ∀ (w' : World) (ev : Value) (c : Nat), c ≠ 0 → ErrAt w' E ev c ⟨#[108, 105, 115, 116]⟩ d → Below w.heap.size w w' → ∃ v ev2 es, (Ending.returned (.tuple #[.slice none 0 0, ev]) = .returned (.tuple #[v, ev2])) ∧ ErrAt w' E ev2 c "list".toUTF8 d ∧ Below w.heap.size w w' ∧ w'.ownsRow 0 52 3 v es.length (cellsE es) ∧ (∀ k, v.ownBlock = some k → w.heap.size ≤ k) ∧ ((c ≠ 0 ∧ es = []) ∨ (c = 0 ∧ es.Perm (entsG G d) ∧ Rising es))   := fun w' ev c hc hv hb =>
    ⟨_, _, [], rfl, hv, hb, World.ownsRow_nil _ _ _ _, fun k hk => (by cases hk), .inl ⟨hc, rfl⟩⟩
  have F0 := Lib.hid fin0
  clear fin0
  cases ho : G.off
  · rw [ho] at hoff
    rw [if_neg (by decide)]
    clear ho
    by_cases hN : d.size ≠ 0 ∧ isName d = false
    · rw [if_pos hN]
      rw [hN.2] at LN
      rw [decide_eq_false hN.1] at hem
      clear hN
      go_enter Tryz.func17, Tryz.ntmps17
      go_wp2_with (first | (go_at_call 16; refine hoff.mono ?_; rintro r w2 ⟨rfl, rfl⟩) | (go_at_call 56; ((with_reducible refine (LN.out _).mono ?_); rintro r w2 ⟨rfl, rfl⟩)) | (go_at_call 55; ((with_reducible refine (H2.out 1 _).mono ?_); rintro r w3 ⟨v, rfl, hv, hb⟩)))
      go_ret2
      exact F0.out _ _ _ (by decide) hv hb
    · rw [if_neg hN]
      have step : (d.size = 0) ∨ (d.size ≠ 0 ∧ isName d = true) := by
        by_cases h0 : d.size = 0
        · exact .inl h0
        · refine .inr ⟨h0, ?_⟩
          cases hh : isName d
          · exact absurd ⟨h0, hh⟩ hN
          · rfl
      clear hN
      obtain ⟨fo, hfo⟩ : ∃ fo, fileOf G.gc d = fo := ⟨_, rfl⟩
      obtain ⟨ff, hff⟩ : ∃ ff, isFolderG G.gc d = ff := ⟨_, rfl⟩
      rw [hfo] at L5 ⊢
      rw [hff] at L3 hfin ⊢
      have HFIN := Lib.hid hfin
      clear hfin hfo hff
      cases fo with
      | some i =>
        rw [if_pos (show (some i).isSome = true from rfl)]
        simp only [fileV, ptrV] at L5
        clear HFIN
        have LF := Lib.hid L5
        rcases step with h0 | ⟨h0, hN⟩
        · rw [decide_eq_true h0] at hem
          clear h0 L5
          go_enter Tryz.func17, Tryz.ntmps17
          go_wp2_with (first | (go_at_call 16; refine hoff.mono ?_; rintro r w2 ⟨rfl, rfl⟩) | (go_at_call 56; ((with_reducible refine (LN.out _).mono ?_); rintro r w2 ⟨rfl, rfl⟩)) | (go_at_call 48; ((with_reducible refine LF.out.mono ?_); rintro r w2 ⟨rfl, q, rfl⟩)) | (go_at_call 57; ((with_reducible refine (L3.out _).mono ?_); rintro r w2 ⟨rfl, rfl⟩)) | (go_at_call 55; ((with_reducible refine (H2.out 2 _).mono ?_); rintro r w3 ⟨v, rfl, hv, hb⟩)))
          go_ret2
          exact F0.out _ _ _ (by decide) hv (((Below.refl _ _).drewN q : Below w.heap.size w _).trans hb)
        · rw [decide_eq_false h0] at hem
          rw [hN] at LN
          clear h0 hN L5
          go_enter Tryz.func17, Tryz.ntmps17
          go_wp2_with (first | (go_at_call 16; refine hoff.mono ?_; rintro r w2 ⟨rfl, rfl⟩) | (go_at_call 56; ((with_reducible refine (LN.out _).mono ?_); rintro r w2 ⟨rfl, rfl⟩)) | (go_at_call 48; ((with_reducible refine LF.out.mono ?_); rintro r w2 ⟨rfl, q, rfl⟩)) | (go_at_call 57; ((with_reducible refine (L3.out _).mono ?_); rintro r w2 ⟨rfl, rfl⟩)) | (go_at_call 55; ((with_reducible refine (H2.out 2 _).mono ?_); rintro r w3 ⟨v, rfl, hv, hb⟩)))
          go_ret2
          exact F0.out _ _ _ (by decide) hv (((Below.refl _ _).drewN q : Below w.heap.size w _).trans hb)
      | none =>
        rw [if_neg (show ¬ (none : Option Nat).isSome = true from by decide)]
        simp only [fileV] at L5
        cases ff
        · rw [if_pos rfl]
          clear HFIN
          have LF := Lib.hid L5
          rcases step with h0 | ⟨h0, hN⟩
          · rw [decide_eq_true h0] at hem
            clear h0 L5
            go_enter Tryz.func17, Tryz.ntmps17
            go_wp2_with (first | (go_at_call 16; refine hoff.mono ?_; rintro r w2 ⟨rfl, rfl⟩) | (go_at_call 56; ((with_reducible refine (LN.out _).mono ?_); rintro r w2 ⟨rfl, rfl⟩)) | (go_at_call 48; ((with_reducible refine LF.out.mono ?_); rintro r w2 ⟨rfl, q, rfl⟩)) | (go_at_call 57; ((with_reducible refine (L3.out _).mono ?_); rintro r w2 ⟨rfl, rfl⟩)) | (go_at_call 55; ((with_reducible refine (H2.out 3 _).mono ?_); rintro r w3 ⟨v, rfl, hv, hb⟩)))
            go_ret2
            exact F0.out _ _ _ (by decide) hv (((Below.refl _ _).drewN q : Below w.heap.size w _).trans hb)
          · rw [decide_eq_false h0] at hem
            rw [hN] at LN
            clear h0 hN L5
            go_enter Tryz.func17, Tryz.ntmps17
            go_wp2_with (first | (go_at_call 16; refine hoff.mono ?_; rintro r w2 ⟨rfl, rfl⟩) | (go_at_call 56; ((with_reducible refine (LN.out _).mono ?_); rintro r w2 ⟨rfl, rfl⟩)) | (go_at_call 48; ((with_reducible refine LF.out.mono ?_); rintro r w2 ⟨rfl, q, rfl⟩)) | (go_at_call 57; ((with_reducible refine (L3.out _).mono ?_); rintro r w2 ⟨rfl, rfl⟩)) | (go_at_call 55; ((with_reducible refine (H2.out 3 _).mono ?_); rintro r w3 ⟨v, rfl, hv, hb⟩)))
            go_ret2
            exact F0.out _ _ _ (by decide) hv (((Below.refl _ _).drewN q : Below w.heap.size w _).trans hb)
        · rw [if_neg (by decide)]
          have HFI := Lib.hid (HFIN.out rfl)
          clear HFIN
          have LF := Lib.hid L5
          rcases step with h0 | ⟨h0, hN⟩
          · rw [decide_eq_true h0] at hem
            clear h0 L5
            go_enter Tryz.func17, Tryz.ntmps17
            go_wp2_with (first | (go_at_call 16; refine hoff.mono ?_; rintro r w2 ⟨rfl, rfl⟩) | (go_at_call 56; ((with_reducible refine (LN.out _).mono ?_); rintro r w2 ⟨rfl, rfl⟩)) | (go_at_call 48; ((with_reducible refine LF.out.mono ?_); rintro r w2 ⟨rfl, q, rfl⟩)) | (go_at_call 57; ((with_reducible refine (L3.out _).mono ?_); rintro r w2 ⟨rfl, rfl⟩)) | (go_at_call 58; ((refine (HFI.out q).mono ?_); rintro r w3 ⟨v, es, rfl, hb, hr, ho, hp, hri⟩)))
            go_ret2
            exact ⟨_, _, es, rfl, .inl ⟨rfl, rfl⟩, ((Below.refl _ _).drewN q : Below w.heap.size w _).trans hb, hr, ho, .inr ⟨by trivial, hp, hri⟩⟩
          · rw [decide_eq_false h0] at hem
            rw [hN] at LN
            clear h0 hN L5
            go_enter Tryz.func17, Tryz.ntmps17
            go_wp2_with (first | (go_at_call 16; refine hoff.mono ?_; rintro r w2 ⟨rfl, rfl⟩) | (go_at_call 56; ((with_reducible refine (LN.out _).mono ?_); rintro r w2 ⟨rfl, rfl⟩)) | (go_at_call 48; ((with_reducible refine LF.out.mono ?_); rintro r w2 ⟨rfl, q, rfl⟩)) | (go_at_call 57; ((with_reducible refine (L3.out _).mono ?_); rintro r w2 ⟨rfl, rfl⟩)) | (go_at_call 58; ((refine (HFI.out q).mono ?_); rintro r w3 ⟨v, es, rfl, hb, hr, ho, hp, hri⟩)))
            go_ret2
            exact ⟨_, _, es, rfl, .inl ⟨rfl, rfl⟩, ((Below.refl _ _).drewN q : Below w.heap.size w _).trans hb, hr, ho, .inr ⟨by trivial, hp, hri⟩⟩
  · rw [ho] at hoff
    rw [if_pos rfl]
    clear ho hfin
    go_enter Tryz.func17, Tryz.ntmps17
    go_wp2_with (first | (go_at_call 16; refine hoff.mono ?_; rintro r w2 ⟨rfl, rfl⟩) | (go_at_call 55; ((with_reducible refine (H2.out 0 _).mono ?_); rintro r w3 ⟨v, rfl, hv, hb⟩)))
    go_ret2
    exact F0.out _ _ _ (by decide) hv hb

end Go.Proofs.YtmmlefbokplnnaaGreatDoor.Disk

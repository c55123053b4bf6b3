/-
  The texts DList, joined. Own text.
-/
import Derived.Test.YtmmlefbokplnnaaGreatDoorJ19
import Derived.Test.YtmmlefbokplnnaaGreatDoorJ20
import Derived.Test.YtmmlefbokplnnaaGreatDoorJ14
set_option linter.unusedVariables false
set_option linter.unusedSimpArgs false
namespace Go.Proofs.YtmmlefbokplnnaaGreatDoor.Disk
open Go.RowKit Go Go.Proofs.YtmmlefbokplnnaaGreatDoor.Base Go.Proofs.YtmmlefbokplnnaaGreatDoor.Map

theorem ent_info : (Tryz.prog.info? 52).map (fun i => (i.zero, i.size, i.bytes)) = some (some (.agg #[.string ⟨#[]⟩, .bool false, .int .i64 0]), 3, 32) := by kernel_rfl
theorem info3 {P : Program} {t : TypeId} {z : Value} {s b : Nat} (h : (P.info? t).map (fun i => (i.zero, i.size, i.bytes)) = some (some z, s, b)) : ∃ i, P.info? t = some i ∧ i.zero = some z ∧ i.size = s ∧ i.bytes = b := by
  cases hh : P.info? t with
  | none => rw [hh] at h; cases h
  | some i =>
    rw [hh, Option.map_some] at h
    injection h with h
    injection h with h1 h2
    injection h2 with h2 h3
    exact ⟨i, rfl, h1, h2, h3⟩

/-- the entries that were collected lie in a row of their own -/
structure EntRow (w wr : World) (v : Value) (es : List EntG) : Prop where
  below : Below w.heap.size w wr
  row : wr.ownsRow 0 52 3 v es.length (cellsE es)
  new : ∀ k, v.ownBlock = some k → w.heap.size ≤ k
theorem EntRow.ne_map {w wr : World} {v : Value} {es : List EntG} (h : EntRow w wr v es) {b : Nat} (hm : isMap wr b) : some b ≠ v.ownBlock := fun e => (row_kind h.row e.symm).noMap hm
theorem EntRow.ne_iter {w wr : World} {v : Value} {es : List EntG} (h : EntRow w wr v es) {b r : Nat} {d t : List (ByteArray × Value)} (hr : RangeIs wr b r d t) : some r ≠ v.ownBlock ∧ some b ≠ v.ownBlock := by
  obtain ⟨es', clock, seen, c0, hb, _, hr, _⟩ := hr
  refine ⟨fun e => ?_, h.ne_map ⟨_, _, hb⟩⟩
  obtain ⟨cur, fr, hk⟩ := row_kind h.row e.symm
  rw [hr] at hk; cases hk
theorem EntRow.shape {w wr : World} {v : Value} {es : List EntG} (h : EntRow w wr v es) : ∃ ao cap, v = .slice ao es.length cap := by
  obtain ⟨a, c, e, _⟩ := row_len h.row
  exact ⟨a, c, e⟩

/-- one more entry -/
theorem EntRow.add {w wr : World} {ao : Option Addr} {n cap : Nat} {es : List EntG} (h : EntRow w wr (.slice ao n cap) es) (hn : es.length = n) (x : EntG) (hl : (n + 1) * 32 ≤ 140737488355328) :
    ∃ ao' cap' w', (Builtin.append_ #[46, 46] 46 #[.slice ao n cap, .slice (some ⟨wr.heap.size, 0, none⟩) 1 1]).run Tryz.prog (wr.alloc (.cells x.cells.toArray 52)) = .ok (.slice ao' (n + 1) cap') w' ∧ EntRow w w' (.slice ao' (n + 1) cap') (es ++ [x])
      ∧ (∀ b, b < wr.heap.size → some b ≠ (Value.slice ao n cap).ownBlock → w'.heap[b]? = wr.heap[b]?) := by
  obtain ⟨i0, hi, hz0, hz1, hz2⟩ := info3 ent_info
  have hb1 : Below wr.heap.size wr (wr.alloc (.cells x.cells.toArray 52)) := below_alloc _ _
  have hsrc : Src Tryz.prog 3 46 (.slice (some ⟨wr.heap.size, 0, none⟩) 1 1) 1 (cellsE [x]) (wr.alloc (.cells x.cells.toArray 52)) := by
    refine Src.ofSlice _ Tryz.underlying46 _ 1 1 _ rfl ?_ (cellsE_one _)
    intro j u hu
    rw [Go.WideShapes.add_plain, Nat.zero_add, World.cell?_alloc_new]
    simpa [cellsE] using hu
  have hrow := h.row.alloc (.cells x.cells.toArray 52)
  rw [hn] at hrow
  obtain ⟨v', w', h1, h2, h3, h4⟩ := Row.append_src (P := Tryz.prog) (wr.alloc (.cells x.cells.toArray 52)) 46 46 46 52 i0 _ 3 32 Tryz.underlying46 hi hz0 hz1 hz2 rfl (by decide) _ n _ hrow _ 1 _ hsrc (by unfold maxLen; omega) hl
  rw [← cellsE_append] at h2
  have hbel : Below w.heap.size w (wr.alloc (.cells x.cells.toArray 52)) := h.below.alloc h.below.size _
  rcases h2.2 with ⟨e, h0⟩ | ⟨g, c, cur, e, h5⟩
  · omega
  · subst e
    refine ⟨_, c, w', h1, ⟨hbel.grown h3 hbel.size h.new, ?_, fun k hk => ?_⟩, fun b hb hne => ?_⟩
    · rw [List.length_append, hn]; exact h2
    · rcases h4 with e | e
      · exact h.new k (by rw [← e]; exact hk)
      · rw [hk] at e
        injection e with e
        have := h.below.size
        rw [World.size_alloc] at e
        omega
    · rw [h3.block b (by rw [World.size_alloc]; omega) hne, heap_alloc_old _ _ hb]

set_option maxRecDepth 100000 in
set_option maxHeartbeats 8000000 in
theorem entries_any {w : World} {D : Nat} {G : DiskG} (h : DiskAt w D G) (hn : NumsOk G) (d : ByteArray) (hd : d.size ≠ 0) (x : DirG) (hx : lookDir G.gc d = some x) (hcount : x.files.length < 1099511627776) :
    Calls Tryz.prog 58 #[.pointer (some ⟨D, 0, none⟩), .string d] w fun r w' =>
      ∃ ao cap, r = .returned (.slice ao x.files.length cap) ∧ Below w.heap.size w w' := by
  have hc : w.cell? ⟨D, 0, none⟩ = some (topV G.gc) := h.cell 0
  have hlk := look_dir h.parts.cur d
  have hxm := (lookDir_mem hx).1
  have hM := h.parts.cur.dirs x hxm
  have hfl := hM.lt
  have hv : dirV G.gc d = .map (some x.blk) := by unfold dirV; rw [hx]; rfl
  have he0 : d.toList.isEmpty = false := by
    cases hh : d.toList.isEmpty
    · rfl
    · rw [isEmpty_iff] at hh; exact absurd (by simpa using hh) hd
  have hnm := hn.cur x hxm
  have HD := Lib.hid h
  have HM := Lib.hid hM
  have HNM := Lib.hid hnm
  have HCT := Lib.hid hcount
  clear h hn hx hM hxm hnm hcount hd
  rw [hv] at hlk
  clear hv
  go_enter Tryz.func58, Tryz.ntmps58
  go_wp2_with (at_range; refine Map.wp_range _ rfl _ rfl Tryz.underlying128 rfl HM.out ?_; intro w1 hr1 hg1 hs1)
  clear hs1
  go_frame
  go_loopg [5] x.files.length (fun r v wr => ∃ (fx ft : List (ByteArray × Nat)) (es : List EntG), r = ft.length ∧ Hid (RangeIs wr x.blk w.heap.size (fileEnts G.ptr fx) (fileEnts G.ptr ft)) ∧ Hid (EntRow w wr v es) ∧ Hid ((fx ++ ft).Perm x.files) ∧ Hid (es.length = fx.length))
  case atStart => exact ⟨[], x.files, [], rfl, hr1, ⟨(Below.refl _ _).grown hg1 (Nat.le_refl _) (fun k hk => by cases hk), World.ownsRow_nil _ _ _ _, fun k hk => by cases hk⟩, List.Perm.refl _, rfl⟩
  case round =>
    obtain ⟨fx, ft, es, rfl, HR, HW, HP, HL⟩ := hrel
    go_wp2_with (at_next; refine Map.wp_next _ rfl _ rfl rfl HR.out ?_ ?_)
    · intro ht0
      have hft : ft = [] := by unfold fileEnts at ht0; simpa using ht0
      subst hft
      have hlen : es.length = x.files.length := by
        rw [HL.out, ← HP.out.length_eq, List.append_nil]
      obtain ⟨ao, cap, rfl⟩ := HW.out.shape
      have hso := sortE_any wr _ es HW.out.row (by have := HCT.out; omega)
      have HSO := Lib.hid hso
      have HLEN := Lib.hid hlen
      clear hso hlen
      go_wp2_with (go_at_call 87; ((refine HSO.out.mono ?_); rintro r w5 ⟨rfl, hg5⟩))
      go_ret
      exact ⟨ao, cap, by rw [HLEN.out]; rfl, HW.out.below.grown hg5 HW.out.below.size HW.out.new⟩
    · intro k v t1 t2 w2 htodo hR2 hg2 hs2 hen
      obtain ⟨y1, y, y2, rfl, rfl, rfl, rfl, rfl⟩ := fileEnts_split htodo
      have hym : y ∈ x.files := HP.out.mem_iff.1 (by simp)
      have hyn := HNM.out y hym
      have hfile := HD.out.parts.files y.2 hyn
      have hW2 : EntRow w w2 _ es := ⟨HW.out.below.grown hg2 HW.out.below.size (fun k hk => by injection hk with hk; omega), HW.out.row.kept hg2 (.inr fun e => (HW.out.ne_iter HR.out).1 e.symm), HW.out.new⟩
      have hcell : w2.cell? ⟨G.ptr y.2, 0, none⟩ = some (G.bvs y.2) := (hW2.below.cell (p := ⟨G.ptr y.2, 0, none⟩) hfile.lt).trans hfile.cell0
      obtain ⟨ba, bc, hbv, _⟩ := row_len hfile.bytes
      rw [hbv] at hcell
      generalize G.pfs[y.2].bytes.length = L at *
      have hcnt : es.length < 1099511627776 := by
        have h1 := HL.out
        have h2 := HP.out.length_eq
        have h3 := HCT.out
        rw [List.length_append, List.length_append] at h2
        omega
      obtain ⟨va, vc, hv⟩ := hW2.shape
      subst hv
      obtain ⟨ao', cap', w', hrun, hrow, hkeep⟩ := hW2.add rfl ⟨y.1, false, (L : Int)⟩ (by omega)
      have hR3 : RangeIs w' x.blk w.heap.size (fileEnts G.ptr fx ++ [(y.1, ptrV G.ptr y.2)]) (fileEnts G.ptr y1 ++ fileEnts G.ptr y2) := hR2.kept (hkeep _ hR2.lt.1 (hW2.ne_iter hR2).2) (hkeep _ hR2.lt.2.1 (hW2.ne_iter hR2).1)
      unfold ptrV at hen
      have HRun := Lib.hid hrun
      have HRow := Lib.hid hrow
      have HR3 := Lib.hid hR3
      clear hrun hrow hkeep hR3 hR2 hW2 hg2 hs2 htodo hfile hbv
      unfold ptrV
      go_wp2_with (at_builtin; refine Row.append_by rfl (.tmp 22) (.tmp 30) _ rfl _ _ rfl rfl HRun.out ?_)
      go_roundg (y1 ++ y2).length
      case measure => simp
      case rel =>
        refine ⟨fx ++ [y], y1 ++ y2, es ++ [EntG.mk y.1 false (L : Int)], rfl, ?_, HRow.out, ?_, ?_⟩
        · show RangeIs _ _ _ _ _
          have e1 : fileEnts G.ptr (fx ++ [y]) = fileEnts G.ptr fx ++ [(y.1, ptrV G.ptr y.2)] := by simp [fileEnts]
          have e2 : fileEnts G.ptr (y1 ++ y2) = fileEnts G.ptr y1 ++ fileEnts G.ptr y2 := by simp [fileEnts]
          rw [e1, e2]
          exact HR3.out
        · show List.Perm _ _
          refine List.Perm.trans ?_ HP.out
          rw [List.append_assoc]
          exact List.Perm.append_left _ (by show (y :: (y1 ++ y2)).Perm _; exact List.perm_middle.symm)
        · show _ = _
          rw [List.length_append, List.length_append, HL.out]
          rfl

set_option maxRecDepth 100000 in
set_option maxHeartbeats 4000000 in
/-- a directory that is there is listed -/
theorem List_any {w : World} {D : Nat} {G : DiskG} {E : Nat → Addr} (h : DiskAt w D G) (he : Env w E) (hn : NumsOk G) (d : ByteArray) (hd : d.size ≠ 0) (hs : d.size < 4294967281) (ho : G.off = false) (hN : isName d = true) (hf : fileOf G.gc d = none) (x : DirG) (hx : lookDir G.gc d = some x) (hcount : x.files.length < 1099511627776) :
    Calls Tryz.prog 17 #[.pointer (some ⟨D, 0, none⟩), .string d] w fun r w' =>
      ∃ ao cap, r = .returned (.tuple #[.slice ao x.files.length cap, .nilIface]) ∧ Below w.heap.size w w' := by
  have hoff := off_any h
  rw [ho] at hoff
  obtain ⟨_, _, l3, _, l5⟩ := looks h he.max d hs
  have l3 := fun W => l3 W d
  have hF : isFolderG G.gc d = true := by unfold isFolderG; rw [hx]; simp
  rw [hF] at l3
  rw [hf] at l5
  have l1 := fun W => isName_any d (by omega) W
  rw [hN] at l1
  have h6 := fun N => entries_any (h.below ((Below.refl _ w).drewN N)) hn d hd x hx hcount
  have he0 : d.toList.isEmpty = false := by
    cases hh : d.toList.isEmpty
    · rfl
    · rw [isEmpty_iff] at hh; exact absurd (by simpa using hh) hd
  have L1 := Lib.hid l1
  have L3 := Lib.hid l3
  have L5 := Lib.hid l5
  have H6 := Lib.hid h6
  clear h he hn hd hs ho hN hf hx hcount l1 l3 l5 h6 hF
  generalize x.files.length = n at *
  unfold fileV at L5
  go_enter Tryz.func17, Tryz.ntmps17
  go_wp2_with (first
    | (go_at_call 16; refine hoff.mono ?_; rintro r w2 ⟨rfl, rfl⟩)
    | (go_at_call 56; ((with_reducible refine (L1.out _).mono ?_); rintro r w2 ⟨rfl, rfl⟩))
    | (go_at_call 48; ((with_reducible refine (L5.out _ rfl).mono ?_); rintro r w2 ⟨rfl, n2, rfl⟩))
    | (go_at_call 57; ((refine (L3.out _ (by rfl)).mono ?_); rintro r w2 ⟨rfl, rfl⟩))
    | (go_at_call 58; ((refine (H6.out _).mono ?_); rintro r w2 ⟨ao, cap, rfl, hb⟩)))
  go_ret2
  exact ⟨ao, cap, rfl, ((Below.refl _ w).drewN _).trans hb⟩

end Go.Proofs.YtmmlefbokplnnaaGreatDoor.Disk

/-
  The paths of all files, in their order: the contract of paths. Own text.
-/
import Derived.Test.YtanbmlikfhcpoaaDoorDClone
import Derived.Shelf.SortM.Plain
import Derived.Shelf.SortM.SortNone
import Derived.Ground.SlgmProg
import Derived.Sort.OwnSorted
import Derived.Sort.KeysCollected
namespace Go.Proofs
open Go.Shelf
shelf_lay_g SlLaysM.n6 Slgm 6 at Tryd 44 as Tryd.sortS
end Go.Proofs
namespace Go.Proofs.YtanbmlikfhcpoaaDoor.Disk
open Go.RowKit Go Go.Proofs.YtanbmlikfhcpoaaDoor.Base Go.Proofs.YtanbmlikfhcpoaaDoor.Map Go.Shelf Go.Sort

def lst (s : ByteArray) : List UInt8 := s.data.toList
theorem encStr_lst (s : ByteArray) : encStr (lst s) = .string s := by
  unfold encStr lst
  simp

def sorted (l : List (List UInt8)) : List (List UInt8) := l.mergeSort fun x y => decide (x ≤ y)

theorem sort_any (w : World) (v : Value) (n : Nat) (ss : List (List UInt8)) (h : w.ownsRow 0 9 1 v n (ss.map encStr)) (hn : ss.length < 4611686018427387904) :
    Calls Tryd.prog 44 #[v] w fun e w' => e = .returned (.tuple #[]) ∧ w'.ownsRow 0 9 1 v n ((sorted ss).map encStr) ∧ w.grownBy w' v.ownBlock := by
  have hl : ss.length = n := by have := h.1; simpa using this
  rcases h.2 with ⟨h1, h0⟩ | ⟨g, cap, cur, h1, hb0, h2, h3, h4, h5, h6⟩
  · subst h1
    have hc := AnyM.slices_Sort_string_none Tryd.sortS none 0 w
    change Calls Tryd.prog 44 _ _ _ at hc
    refine hc.mono fun e w' ⟨e1, e2⟩ => ?_
    subst e2
    have hs : ss = [] := List.eq_nil_of_length_eq_zero (by omega)
    subst hs
    subst h0
    exact ⟨e1, by simpa [sorted] using World.ownsRow_nil w' 0 9 1, ⟨rfl, rfl, rfl, Nat.le_refl _, fun _ _ _ => rfl⟩⟩
  · subst h1
    subst hl
    have hH := holds_of_block h2 (by simpa using h6) (ss := ss)
    have hc := AnyM.slices_Sort_string Tryd.sortS g 0 cap ss w hH (Array.getElem?_eq_some_iff.1 h2).1 hn
    change Calls Tryd.prog 44 _ _ _ at hc
    refine hc.mono fun e w' ⟨e1, q, os, e2⟩ => ?_
    subst e2
    exact ⟨e1, ownsRow_sorted (by simp) (Nat.zero_le _) h2 h3 h4 h5, grownBy_sorted _⟩

theorem str_info : (Tryd.prog.info? 9).map (fun i => (i.zero, i.size, i.bytes)) = some (some (.string ⟨#[]⟩), 1, 16) := by kernel_rfl

/-- a text, behind texts -/
theorem append_str (w : World) (nv : Value) (xs : List Value) (n : Nat) (hown : w.ownsRow 0 9 1 nv n xs) (s : ByteArray) (b : Nat) (hb : w.heap[b]? = some (.cells #[.string s] 9)) (hl : n < 1099511627776) :
    ∃ v' w', (Builtin.append_ #[22, 22] 22 #[nv, .slice (some ⟨b, 0, none⟩) 1 1]).run Tryd.prog w = .ok v' w' ∧ w'.ownsRow 0 9 1 v' (n + 1) (xs ++ [.string s]) ∧ w.grownBy w' nv.ownBlock ∧ (v'.ownBlock = nv.ownBlock ∨ v'.ownBlock = some w.heap.size) := by
  obtain ⟨i0, hi, hz0, hz1, hz2⟩ := info_parts str_info
  have hsrc : Src Tryd.prog 1 22 (.slice (some ⟨b, 0, none⟩) 1 1) 1 [.string s] w := by
    refine Src.ofSlice w Tryd.underlying22 _ 1 1 _ rfl ?_ ?_
    · intro j u hu
      rw [Go.WideShapes.add_plain, cell_of_row w b _ _ _ _ hb]
      simpa using hu
    · intro u hu
      simp at hu; subst hu; rfl
  obtain ⟨v', w', h1, h2, h3, h4⟩ := Row.append_src (P := Tryd.prog) w 22 22 22 9 i0 _ 1 16 Tryd.underlying22 hi hz0 hz1 hz2 rfl (by decide) nv n _ hown _ 1 _ hsrc (by unfold maxLen; omega) (by omega)
  exact ⟨v', w', h1, h2, h3, h4⟩

def pathOf (d n : ByteArray) : ByteArray := if d.size = 0 then n else d ++ ⟨#[47]⟩ ++ n
def pathsOf (x : DirG) : List (List UInt8) := x.files.map fun p => lst (pathOf x.name p.1)
def allPaths (ds : List DirG) : List (List UInt8) := ds.flatMap pathsOf

theorem fileEnts_split {ptr : Nat → Nat} {tx : List (ByteArray × Nat)} {t1 t2 : List (ByteArray × Value)} {k : ByteArray} {v : Value} (h : fileEnts ptr tx = t1 ++ (k, v) :: t2) :
    ∃ x1 x x2, tx = x1 ++ x :: x2 ∧ fileEnts ptr x1 = t1 ∧ fileEnts ptr x2 = t2 ∧ k = x.1 ∧ v = ptrV ptr x.2 := by
  unfold fileEnts at h
  obtain ⟨x1, r, h1, h2, h3⟩ := List.map_eq_append_iff.1 h
  obtain ⟨x, x2, h4, h5, h6⟩ := List.map_eq_cons_iff.1 h3
  injection h5 with h5 h7
  exact ⟨x1, x, x2, by rw [h1, h4], h2, h6, h5.symm, h7.symm⟩

/-- the texts that were collected lie in a row of their own -/
structure Rowed (w wr : World) (v : Value) (ss : List (List UInt8)) : Prop where
  below : Below w.heap.size w wr
  row : wr.ownsRow 0 9 1 v ss.length (ss.map encStr)
  new : ∀ k, v.ownBlock = some k → w.heap.size ≤ k

theorem Rowed.ne_map {w wr : World} {v : Value} {ss : List (List UInt8)} (h : Rowed w wr v ss) {b : Nat} (hm : isMap wr b) : some b ≠ v.ownBlock := fun e => (row_kind h.row e.symm).noMap hm
theorem Rowed.ne_iter {w wr : World} {v : Value} {ss : List (List UInt8)} (h : Rowed w wr v ss) {b r : Nat} {d t : List (ByteArray × Value)} (hr : RangeIs wr b r d t) : some r ≠ v.ownBlock ∧ some b ≠ v.ownBlock := by
  obtain ⟨es, clock, seen, c0, hb, _, hr, _⟩ := hr
  refine ⟨fun e => ?_, h.ne_map ⟨_, _, hb⟩⟩
  obtain ⟨cur, fr, hk⟩ := row_kind h.row e.symm
  rw [hr] at hk; cases hk

set_option maxRecDepth 100000 in
set_option maxHeartbeats 8000000 in
theorem paths_any {w : World} {ptr : Nat → Nat} {g : TreeG} (h : TreeAt w ptr g) (tb to' : Nat) (hc : w.cell? ⟨tb, to', none⟩ = some (topV g)) (hsz : ∀ x ∈ g.ds, x.name.size < 4294967281 ∧ ∀ p ∈ x.files, p.1.size < 4294967281) (hcount : (allPaths g.ds).length < 1099511627776) :
    Calls Tryd.prog 25 #[.pointer (some ⟨tb, to', none⟩)] w fun r w' =>
      ∃ v, r = .returned v ∧ Rowed w w' v (sorted (allPaths g.ds)) := by
  have htl := World.block_lt_of_cell? w _ hc
  unfold topV at hc
  cases hg : g.fm with
  | none =>
    rw [hg] at hc
    have hds := h.none hg
    have hrn := fun (w : World) => run_range_nilMap (P := Tryd.prog) w 41 _ _ Tryd.underlying41
    have hnn := fun ty => run_next_nilMap (P := Tryd.prog) w ty 0 0 #[]
    have hso := AnyM.slices_Sort_string_none Tryd.sortS none 0 (w.alloc (.mapIter none 0 #[] 0))
    change Calls Tryd.prog 44 _ _ _ at hso
    have HSO := Lib.hid hso
    clear h hso
    go_enter Tryd.func25, Tryd.ntmps25
    go_wp2_with fail
    refine wp_loop_rounds 1 ?_
    rw [rounds_succ]
    go_wp2_with (go_at_call 44; ((refine HSO.out.mono ?_); rintro r w5 ⟨rfl, rfl⟩))
    go_ret
    refine ⟨_, rfl, ?_⟩
    rw [hds, (by simp [sorted, allPaths] : sorted (allPaths []) = [])]
    exact ⟨below_alloc _ _, World.ownsRow_nil _ _ _ _, fun k hk => by cases hk⟩
  | some fm =>
    rw [hg] at hc
    have hM := h.top fm hg
    have hfl := hM.lt
    have HT := Lib.hid h
    have HM := Lib.hid hM
    have HSZ := Lib.hid hsz
    have HCT := Lib.hid hcount
    clear h hM hsz hcount
    go_enter Tryd.func25, Tryd.ntmps25
    go_wp2_with (at_range; refine Map.wp_range _ rfl _ rfl Tryd.underlying41 rfl HM.out ?_; intro w1 hr1 hg1 hs1)
    clear hs1
    go_loopg [3] g.ds.length (fun r v wr => ∃ (dx tx : List DirG) (ss : List (List UInt8)), r = tx.length ∧ Hid (RangeIs wr fm w.heap.size (dirEnts dx) (dirEnts tx)) ∧ Hid (Rowed w wr v ss) ∧ Hid ((dx ++ tx).Perm g.ds) ∧ Hid (ss.Perm (allPaths dx)))
    case atStart =>
      exact ⟨[], g.ds, [], rfl, hr1, ⟨(Below.refl _ _).grown hg1 (Nat.le_refl _) (fun k hk => by cases hk), World.ownsRow_nil _ _ _ _, fun k hk => by cases hk⟩, List.Perm.refl _, List.Perm.refl _⟩
    case round =>
      obtain ⟨dx, tx, ss, rfl, HR, HW, HP, HS⟩ := hrel
      obtain ⟨wo, hwo⟩ : ∃ wo : World, wo = wr := ⟨_, rfl⟩
      subst hwo
      go_wp2_with (at_next; refine Map.wp_next _ rfl _ rfl rfl HR.out ?_ ?_)
      · intro ht0
        have htx : tx = [] := by unfold dirEnts at ht0; simpa using ht0
        subst htx
        have hss : ss.Perm (allPaths g.ds) := by
          have hp := HP.out
          rw [List.append_nil] at hp
          exact HS.out.trans (List.Perm.flatMap_right _ hp)
        have hsl : ss.length < 4611686018427387904 := by have := hss.length_eq; have := HCT.out; omega
        have hsort := sort_any _ _ _ ss HW.out.row hsl
        have HSO := Lib.hid hsort
        have HSS := Lib.hid hss
        clear hsort hss hsl
        go_wp2_with (go_at_call 44; ((refine HSO.out.mono ?_); rintro r w5 ⟨rfl, hrow5, hg5⟩))
        go_ret
        have hse : sorted ss = sorted (allPaths g.ds) := mergeSort_of_perm HSS.out
        rw [hse] at hrow5
        have hlen : (sorted (allPaths g.ds)).length = ss.length := by unfold sorted; rw [List.length_mergeSort, HSS.out.length_eq]
        refine ⟨_, rfl, HW.out.below.grown hg5 HW.out.below.size HW.out.new, ?_, HW.out.new⟩
        rw [hlen]
        exact hrow5
      · intro k v t1 t2 w2 htodo hR2 hg2 hs2 hen
        obtain ⟨x1, x, x2, rfl, rfl, rfl, rfl, rfl⟩ := dirEnts_split htodo
        have hxm : x ∈ g.ds := HP.out.mem_iff.1 (by simp)
        have hsrc0 := HT.out.dirs x hxm
        have hxl := hsrc0.lt
        have hsrc : MapIs w2 x.blk (fileEnts ptr x.files) := hsrc0.of_block ((hg2.block _ (by have := HW.out.below.size; omega) (fun e => by injection e with e; omega)).trans (HW.out.below.block _ hxl))
        have HSR := Lib.hid hsrc
        have HR2 := Lib.hid hR2
        have HG2 := Lib.hid hg2
        have HS2 := Lib.hid hs2
        clear hsrc hsrc0 hR2 hg2 hs2 htodo
        go_wp2_with (at_range; refine Map.wp_range _ rfl _ rfl Tryd.underlying75 rfl HSR.out ?_; intro w3 hr3 hg3 hs3)
        have hW2 : Rowed w w2 _ ss := ⟨HW.out.below.grown HG2.out HW.out.below.size (fun k hk => by injection hk with hk; omega), HW.out.row.kept HG2.out (.inr fun e => (HW.out.ne_iter HR.out).1 e.symm), HW.out.new⟩
        have hW3 : Rowed w w3 _ ss := ⟨hW2.below.grown hg3 hW2.below.size (fun k hk => by cases hk), hW2.row.kept hg3 (by cases hh : (Value.ownBlock _) <;> simp), hW2.new⟩
        have hR3 : RangeIs w3 fm w.heap.size (dirEnts dx ++ [(x.name, .map (some x.blk))]) (dirEnts x1 ++ dirEnts x2) := HR2.out.kept (hg3.block _ HR2.out.lt.1 (by simp)) (hg3.block _ HR2.out.lt.2.1 (by simp))
        have hr1l := HR2.out.lt.2.1
        have HW3 := Lib.hid hW3
        have HR3 := Lib.hid hR3
        have Hr3 := Lib.hid hr3
        clear hW2 hW3 hR3 hr3 hg3 hs3
        go_frame
        go_loopg [3] x.files.length (fun r v wr => ∃ (fx ft : List (ByteArray × Nat)) (s2 : List (List UInt8)), r = ft.length ∧ Hid (RangeIs wr x.blk w2.heap.size (fileEnts ptr fx) (fileEnts ptr ft)) ∧ Hid (RangeIs wr fm w.heap.size (dirEnts dx ++ [(x.name, .map (some x.blk))]) (dirEnts x1 ++ dirEnts x2)) ∧ Hid (Rowed w wr v s2) ∧ Hid ((fx ++ ft).Perm x.files) ∧ Hid (s2.Perm (allPaths dx ++ fx.map fun p => lst (pathOf x.name p.1))))
        case atStart => exact ⟨[], x.files, ss, rfl, Hr3.out, HR3.out, HW3.out, List.Perm.refl _, by show List.Perm _ _; simpa using HS.out⟩
        case round =>
          obtain ⟨fx, ft, s2, rfl, IR, IQ, IW, IP, IS⟩ := hrel
          go_wp2_with (at_next; refine Map.wp_next _ rfl _ rfl rfl IR.out ?_ ?_)
          · intro ht0
            have hft : ft = [] := by unfold fileEnts at ht0; simpa using ht0
            subst hft
            go_wp2
            go_roundg (x1 ++ x2).length
            case measure => simp
            case rel =>
              refine ⟨dx ++ [x], x1 ++ x2, s2, rfl, ?_, IW.out, ?_, ?_⟩
              · show RangeIs _ _ _ _ _
                rw [dirEnts_append, dirEnts_append]
                exact IQ.out
              · show List.Perm _ _
                refine List.Perm.trans ?_ HP.out
                rw [List.append_assoc]
                exact List.Perm.append_left _ (by show (x :: (x1 ++ x2)).Perm _; exact List.perm_middle.symm)
              · show List.Perm _ _
                refine IS.out.trans ?_
                have hp := IP.out
                rw [List.append_nil] at hp
                unfold allPaths
                rw [List.flatMap_append]
                refine List.Perm.append_left _ ?_
                simp only [List.flatMap_cons, List.flatMap_nil, List.append_nil]
                exact hp.map _
          · intro k2 v2 u1 u2 w4 htodo4 hR4 hg4 hs4 hen4
            obtain ⟨y1, y, y2, rfl, rfl, rfl, rfl, rfl⟩ := fileEnts_split htodo4
            have hym : y ∈ x.files := IP.out.mem_iff.1 (by simp)
            have hsx := (HSZ.out x hxm).1
            have hsy := (HSZ.out x hxm).2 y hym
            have hcnt : s2.length < 1099511627776 := by
              have h1 := IS.out.length_eq
              have h2 := IP.out.length_eq
              have h3 : (allPaths g.ds).length = (allPaths (dx ++ (x1 ++ x :: x2))).length := (List.Perm.flatMap_right _ HP.out).length_eq.symm
              have h4 := HCT.out
              rw [h3] at h4
              unfold allPaths at h1 h4
              simp only [List.flatMap_append, List.flatMap_cons, List.length_append, List.length_map, pathsOf] at h1 h4
              simp at h2
              omega
            have hW4 : Rowed w w4 _ s2 := ⟨IW.out.below.grown hg4 IW.out.below.size (fun k hk => by injection hk with hk; have := HW.out.below.size; omega), IW.out.row.kept hg4 (.inr fun e => (IW.out.ne_iter IR.out).1 e.symm), IW.out.new⟩
            have hIO4 : RangeIs w4 fm w.heap.size (dirEnts dx ++ [(x.name, .map (some x.blk))]) (dirEnts x1 ++ dirEnts x2) := IQ.out.kept (hg4.block _ IQ.out.lt.1 (fun e => by injection e with e; omega)) (hg4.block _ IQ.out.lt.2.1 (fun e => by injection e with e; omega))
            obtain ⟨P, hP⟩ : ∃ P, pathOf x.name y.1 = P := ⟨_, rfl⟩
            obtain ⟨va, vc, hv, _⟩ := row_len hW4.row
            subst hv
            have hbel : Below w4.heap.size w4 (w4.alloc (.cells #[.string P] 9)) := below_alloc _ _
            obtain ⟨v', w5, hrun, hrow, hg5, hloc⟩ := append_str (w4.alloc (.cells #[.string P] 9)) (.slice va s2.length vc) _ s2.length (hW4.row.alloc _) P w4.heap.size (heap_alloc_new _ _) hcnt
            have hrow' : w5.ownsRow 0 9 1 v' (s2 ++ [lst P]).length ((s2 ++ [lst P]).map encStr) := by
              rw [List.length_append, List.map_append]
              simp only [List.map_cons, List.map_nil, encStr_lst, List.length_cons, List.length_nil]
              exact hrow
            have HRun := Lib.hid hrun
            have HRow := Lib.hid hrow'
            have HG5 := Lib.hid hg5
            have HW4 := Lib.hid hW4
            have HIO4 := Lib.hid hIO4
            have HR4 := Lib.hid hR4
            have HP1 := Lib.hid hP
            have HBel := Lib.hid hbel
            obtain ⟨va2, vc2, rfl, _⟩ := row_len hrow
            clear hrun hrow hrow' hg5 hW4 hIO4 hR4 hbel hg4 hs4 htodo4
            have hfin : ∃ (fx' ft' : List (ByteArray × Nat)) (s3 : List (List UInt8)), (y1 ++ y2).length = ft'.length ∧ Hid (RangeIs w5 x.blk w2.heap.size (fileEnts ptr fx') (fileEnts ptr ft')) ∧ Hid (RangeIs w5 fm w.heap.size (dirEnts dx ++ [(x.name, .map (some x.blk))]) (dirEnts x1 ++ dirEnts x2)) ∧ Hid (Rowed w w5 (.slice va2 (s2.length + 1) vc2) s3) ∧ Hid ((fx' ++ ft').Perm x.files) ∧ Hid (s3.Perm (allPaths dx ++ fx'.map fun p => lst (pathOf x.name p.1))) := by
              have hb5 : ∀ b, b < w4.heap.size → some b ≠ (Value.slice va s2.length vc).ownBlock → w5.heap[b]? = w4.heap[b]? := fun b hb hne => by
                rw [HG5.out.block b (by simp; omega) hne, heap_alloc_old _ _ hb]
              have n1 := HW4.out.ne_iter HR4.out
              have n2 := HW4.out.ne_iter HIO4.out
              have hs4 := HW4.out.below.size
              refine ⟨fx ++ [y], y1 ++ y2, s2 ++ [lst P], rfl, ?_, ?_, ⟨?_, ?_, ?_⟩, ?_, ?_⟩
              · show RangeIs _ _ _ _ _
                have e1 : fileEnts ptr (fx ++ [y]) = fileEnts ptr fx ++ [(y.1, ptrV ptr y.2)] := by simp [fileEnts]
                have e2 : fileEnts ptr (y1 ++ y2) = fileEnts ptr y1 ++ fileEnts ptr y2 := by simp [fileEnts]
                rw [e1, e2]
                exact HR4.out.kept (hb5 _ HR4.out.lt.1 n1.2) (hb5 _ HR4.out.lt.2.1 n1.1)
              · exact HIO4.out.kept (hb5 _ HIO4.out.lt.1 n2.2) (hb5 _ HIO4.out.lt.2.1 n2.1)
              · exact (HW4.out.below.alloc hs4 _).grown HG5.out (by simp; omega) HW4.out.new
              · exact HRow.out
              · intro k hk
                rcases hloc with h1 | h1
                · rw [h1] at hk; exact HW4.out.new k hk
                · rw [h1] at hk; injection hk with hk; simp at hk; omega
              · show List.Perm _ _
                refine List.Perm.trans ?_ IP.out
                rw [List.append_assoc]
                exact List.Perm.append_left _ (by show (y :: (y1 ++ y2)).Perm _; exact List.perm_middle.symm)
              · show List.Perm _ _
                rw [List.map_append, ← List.append_assoc]
                simp only [List.map_cons, List.map_nil, HP1.out]
                exact List.Perm.append_right _ IS.out
            have HFIN := Lib.hid hfin
            clear hfin
            by_cases hx0 : x.name.size = 0
            · have he0 : x.name.toList.isEmpty = true := by rw [isEmpty_iff]; simpa using hx0
              have hPn : P = y.1 := by rw [← HP1.out]; unfold pathOf; rw [if_pos hx0]
              have HPN := Lib.hid hPn
              clear hPn hP
              subst_vars
              rw [HPN.out] at HRun
              go_wp2_with (at_builtin; refine Row.append_by rfl (.tmp 29) (.tmp 31) _ rfl _ _ rfl rfl HRun.out ?_)
              go_roundg (y1 ++ y2).length
              case measure => simp
              case rel => exact HFIN.out
            · have he0 : x.name.toList.isEmpty = false := by
                cases hh : x.name.toList.isEmpty
                · rfl
                · rw [isEmpty_iff] at hh; exact absurd (by simpa using hh) hx0
              have hPn : P = x.name ++ ⟨#[47]⟩ ++ y.1 := by rw [← HP1.out]; unfold pathOf; rw [if_neg hx0]
              have HPN := Lib.hid hPn
              clear hPn hP
              subst_vars
              rw [HPN.out] at HRun
              go_wp2_with (at_builtin; refine Row.append_by rfl (.tmp 29) (.tmp 31) _ rfl _ _ rfl rfl HRun.out ?_)
              go_roundg (y1 ++ y2).length
              case measure => simp
              case rel => exact HFIN.out

end Go.Proofs.YtanbmlikfhcpoaaDoor.Disk

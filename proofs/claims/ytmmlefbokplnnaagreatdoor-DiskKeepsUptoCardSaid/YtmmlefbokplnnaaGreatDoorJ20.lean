/-
  The texts DPaths, DKept, DRestart, QPath, joined. Own text.
-/
import Derived.Test.YtmmlefbokplnnaaGreatDoorJ17
import Derived.Shelf.SortM.Plain
import Derived.Shelf.SortM.SortNone
import Derived.Ground.SlgmProg
import Derived.Sort.OwnSorted
import Derived.Sort.KeysCollected
import Derived.Test.YtmmlefbokplnnaaGreatDoorJ13
set_option linter.unusedVariables false
set_option linter.unusedSimpArgs false
namespace Go.Proofs
open Go.Shelf
def Tryz.sortS_ren : Go.Shelf.Ren := ⟨fun | 6 => 82 | 8 => 110 | 9 => 109 | 19 => 123 | 20 => 124 | 21 => 114 | 22 => 115 | 23 => 116 | 24 => 117 | 25 => 118 | 26 => 119 | 27 => 120 | 28 => 121 | 29 => 122 | 36 => 134 | 31 => 135 | 32 => 136 | 37 => 137 | 38 => 138 | 39 => 113 | 41 => 143 | n => n, fun | 27 => 28 | 29 => 9 | 3 => 3 | 32 => 149 | 26 => 28 | 0 => 0 | 44 => 162 | 46 => 164 | 4 => 4 | 36 => 155 | 35 => 154 | 41 => 159 | 5 => 5 | 9 => 9 | 53 => 170 | 57 => 174 | 63 => 178 | 64 => 117 | n => n, fun | n => n⟩
theorem Tryz.sortS : Go.Proofs.SlLaysM.n6 Tryz.prog Tryz.sortS_ren := {
  mixed := by kernel_rfl
  f6 := ⟨Tryz.f82.name, by decide, Tryz.func82.trans (congrArg some (by kernel_rfl))⟩
  f8 := Tryz.func110.trans (congrArg some (by kernel_rfl))
  f9 := ⟨Tryz.f109.name, by decide, Tryz.func109.trans (congrArg some (by kernel_rfl))⟩
  f19 := Tryz.func123.trans (congrArg some (by kernel_rfl))
  f20 := Tryz.func124.trans (congrArg some (by kernel_rfl))
  f21 := ⟨Tryz.f114.name, by decide, Tryz.func114.trans (congrArg some (by kernel_rfl))⟩
  f22 := ⟨Tryz.f115.name, by decide, Tryz.func115.trans (congrArg some (by kernel_rfl))⟩
  f23 := ⟨Tryz.f116.name, by decide, Tryz.func116.trans (congrArg some (by kernel_rfl))⟩
  f24 := ⟨Tryz.f117.name, by decide, Tryz.func117.trans (congrArg some (by kernel_rfl))⟩
  f25 := ⟨Tryz.f118.name, by decide, Tryz.func118.trans (congrArg some (by kernel_rfl))⟩
  f26 := ⟨Tryz.f119.name, by decide, Tryz.func119.trans (congrArg some (by kernel_rfl))⟩
  f27 := ⟨Tryz.f120.name, by decide, Tryz.func120.trans (congrArg some (by kernel_rfl))⟩
  f28 := ⟨Tryz.f121.name, by decide, Tryz.func121.trans (congrArg some (by kernel_rfl))⟩
  f29 := ⟨Tryz.f122.name, by decide, Tryz.func122.trans (congrArg some (by kernel_rfl))⟩
  f31 := Tryz.func135.trans (congrArg some (by kernel_rfl))
  f32 := Tryz.func136.trans (congrArg some (by kernel_rfl))
  f36 := ⟨Tryz.f134.name, by decide, Tryz.func134.trans (congrArg some (by kernel_rfl))⟩
  f37 := ⟨Tryz.f137.name, by decide, Tryz.func137.trans (congrArg some (by kernel_rfl))⟩
  f38 := ⟨Tryz.f138.name, by decide, Tryz.func138.trans (congrArg some (by kernel_rfl))⟩
  f39 := ⟨Tryz.f113.name, by decide, Tryz.func113.trans (congrArg some (by kernel_rfl))⟩
  f41 := ⟨Tryz.f143.name, by decide, Tryz.func143.trans (congrArg some (by kernel_rfl))⟩
  t0 := Tryz.underlying0
  a0 := Tryz.isAgg0
  z0 := Tryz.sizeOf0
  v0 := Tryz.zeroValue0
  t3 := Tryz.underlying3
  a3 := Tryz.isAgg3
  z3 := Tryz.sizeOf3
  v3 := Tryz.zeroValue3
  t4 := Tryz.underlying4
  a4 := Tryz.isAgg4
  z4 := Tryz.sizeOf4
  v4 := Tryz.zeroValue4
  t5 := Tryz.underlying5
  a5 := Tryz.isAgg5
  z5 := Tryz.sizeOf5
  v5 := Tryz.zeroValue5
  t9 := Tryz.underlying9
  a9 := Tryz.isAgg9
  z9 := Tryz.sizeOf9
  v9 := Tryz.zeroValue9
  t26 := Tryz.underlying28
  a26 := Tryz.isAgg28
  z26 := Tryz.sizeOf28
  v26 := Tryz.zeroValue28
  t27 := Tryz.underlying28
  a27 := Tryz.isAgg28
  z27 := Tryz.sizeOf28
  v27 := Tryz.zeroValue28
  t29 := Tryz.underlying9
  a29 := Tryz.isAgg9
  z29 := Tryz.sizeOf9
  v29 := Tryz.zeroValue9
  t32 := Tryz.underlying149
  a32 := Tryz.isAgg149
  z32 := Tryz.sizeOf149
  v32 := Tryz.zeroValue149
  t35 := Tryz.underlying154
  a35 := Tryz.isAgg154
  z35 := Tryz.sizeOf154
  v35 := Tryz.zeroValue154
  t36 := Tryz.underlying155
  a36 := Tryz.isAgg155
  z36 := Tryz.sizeOf155
  v36 := Tryz.zeroValue155
  t41 := Tryz.underlying159
  a41 := Tryz.isAgg159
  z41 := Tryz.sizeOf159
  v41 := Tryz.zeroValue159
  t44 := Tryz.underlying162
  a44 := Tryz.isAgg162
  z44 := Tryz.sizeOf162
  v44 := Tryz.zeroValue162
  t46 := Tryz.underlying164
  a46 := Tryz.isAgg164
  z46 := Tryz.sizeOf164
  v46 := Tryz.zeroValue164
  t53 := Tryz.underlying170
  a53 := Tryz.isAgg170
  z53 := Tryz.sizeOf170
  v53 := Tryz.zeroValue170
  t57 := Tryz.underlying174
  a57 := Tryz.isAgg174
  z57 := Tryz.sizeOf174
  v57 := Tryz.zeroValue174
  t63 := Tryz.underlying178
  a63 := Tryz.isAgg178
  z63 := Tryz.sizeOf178
  v63 := Tryz.zeroValue178
  t64 := Tryz.underlying117
  a64 := Tryz.isAgg117
  z64 := Tryz.sizeOf117
  v64 := Tryz.zeroValue117 }
end Go.Proofs
namespace Go.Proofs.YtmmlefbokplnnaaGreatDoor.Disk
open Go.RowKit Go Go.Proofs.YtmmlefbokplnnaaGreatDoor.Base Go.Proofs.YtmmlefbokplnnaaGreatDoor.Map Go.Shelf Go.Sort

def lst (s : ByteArray) : List UInt8 := s.data.toList
theorem encStr_lst (s : ByteArray) : encStr (lst s) = .string s := by
  unfold encStr lst
  simp

def sorted (l : List (List UInt8)) : List (List UInt8) := l.mergeSort fun x y => decide (x ≤ y)

theorem sort_any (w : World) (v : Value) (n : Nat) (ss : List (List UInt8)) (h : w.ownsRow 0 9 1 v n (ss.map encStr)) (hn : ss.length < 4611686018427387904) :
    Calls Tryz.prog 82 #[v] w fun e w' => e = .returned (.tuple #[]) ∧ w'.ownsRow 0 9 1 v n ((sorted ss).map encStr) ∧ w.grownBy w' v.ownBlock := by
  have hl : ss.length = n := by have := h.1; simpa using this
  rcases h.2 with ⟨h1, h0⟩ | ⟨g, cap, cur, h1, hb0, h2, h3, h4, h5, h6⟩
  · subst h1
    have hc := AnyM.slices_Sort_string_none Tryz.sortS none 0 w
    change Calls Tryz.prog 82 _ _ _ at hc
    refine hc.mono fun e w' ⟨e1, e2⟩ => ?_
    subst e2
    have hs : ss = [] := List.eq_nil_of_length_eq_zero (by omega)
    subst hs
    subst h0
    exact ⟨e1, by simpa [sorted] using World.ownsRow_nil w' 0 9 1, ⟨rfl, rfl, rfl, Nat.le_refl _, fun _ _ _ => rfl⟩⟩
  · subst h1
    subst hl
    have hH := holds_of_block h2 (by simpa using h6) (ss := ss)
    have hc := AnyM.slices_Sort_string Tryz.sortS g 0 cap ss w hH (Array.getElem?_eq_some_iff.1 h2).1 hn
    change Calls Tryz.prog 82 _ _ _ at hc
    refine hc.mono fun e w' ⟨e1, q, os, e2⟩ => ?_
    subst e2
    exact ⟨e1, ownsRow_sorted (by simp) (Nat.zero_le _) h2 h3 h4 h5, grownBy_sorted _⟩

theorem str_info : (Tryz.prog.info? 9).map (fun i => (i.zero, i.size, i.bytes)) = some (some (.string ⟨#[]⟩), 1, 16) := by kernel_rfl

/-- a text, behind texts -/
theorem append_str (w : World) (nv : Value) (xs : List Value) (n : Nat) (hown : w.ownsRow 0 9 1 nv n xs) (s : ByteArray) (b : Nat) (hb : w.heap[b]? = some (.cells #[.string s] 9)) (hl : n < 1099511627776) :
    ∃ v' w', (Builtin.append_ #[28, 28] 28 #[nv, .slice (some ⟨b, 0, none⟩) 1 1]).run Tryz.prog w = .ok v' w' ∧ w'.ownsRow 0 9 1 v' (n + 1) (xs ++ [.string s]) ∧ w.grownBy w' nv.ownBlock ∧ (v'.ownBlock = nv.ownBlock ∨ v'.ownBlock = some w.heap.size) := by
  obtain ⟨i0, hi, hz0, hz1, hz2⟩ := info_parts str_info
  have hsrc : Src Tryz.prog 1 28 (.slice (some ⟨b, 0, none⟩) 1 1) 1 [.string s] w := by
    refine Src.ofSlice w Tryz.underlying28 _ 1 1 _ rfl ?_ ?_
    · intro j u hu
      rw [Go.WideShapes.add_plain, cell_of_row w b _ _ _ _ hb]
      simpa using hu
    · intro u hu
      simp at hu; subst hu; rfl
  obtain ⟨v', w', h1, h2, h3, h4⟩ := Row.append_src (P := Tryz.prog) w 28 28 28 9 i0 _ 1 16 Tryz.underlying28 hi hz0 hz1 hz2 rfl (by decide) nv n _ hown _ 1 _ hsrc (by unfold maxLen; omega) (by omega)
  exact ⟨v', w', h1, h2, h3, h4⟩

def pathOf (d n : ByteArray) : ByteArray := if d.size = 0 then n else d ++ ⟨#[47]⟩ ++ n
def pathsOf (x : DirG) : List (List UInt8) := x.files.map fun p => lst (pathOf x.name p.1)
def allPaths (ds : List DirG) : List (List UInt8) := ds.flatMap pathsOf

theorem fileEnts_split {ptr : Nat → Nat} {tx : List (ByteArray × Nat)} {t1 t2 : List (ByteArray × Value)} {k : ByteArray} {v : Value} (h : fileEnts ptr tx = t1 ++ (k, v) :: t2) :
    ∃ x1 x x2, tx = x1 ++ x :: x2 ∧ fileEnts ptr x1 = t1 ∧ fileEnts ptr x2 = t2 ∧ k = x.1 ∧ v = ptrV ptr x.2 := by
  unfold fileEnts at h
  obtain ⟨x1, r, h1, h2, h3⟩ := List.map_eq_append_iff.1 h
  obtain ⟨x, x2, h4, h5, h6⟩ := List.map_eq_cons_iff.1 h3
  injection h5 with h5 h7
  exact ⟨x1, x, x2, by rw [h1, h4], h2, h6, h5.symm, h7.symm⟩

/-- the texts that were collected lie in a row of their own -/
structure Rowed (w wr : World) (v : Value) (ss : List (List UInt8)) : Prop where
  below : Below w.heap.size w wr
  row : wr.ownsRow 0 9 1 v ss.length (ss.map encStr)
  new : ∀ k, v.ownBlock = some k → w.heap.size ≤ k

theorem Rowed.ne_map {w wr : World} {v : Value} {ss : List (List UInt8)} (h : Rowed w wr v ss) {b : Nat} (hm : isMap wr b) : some b ≠ v.ownBlock := fun e => (row_kind h.row e.symm).noMap hm
theorem Rowed.ne_iter {w wr : World} {v : Value} {ss : List (List UInt8)} (h : Rowed w wr v ss) {b r : Nat} {d t : List (ByteArray × Value)} (hr : RangeIs wr b r d t) : some r ≠ v.ownBlock ∧ some b ≠ v.ownBlock := by
  obtain ⟨es, clock, seen, c0, hb, _, hr, _⟩ := hr
  refine ⟨fun e => ?_, h.ne_map ⟨_, _, hb⟩⟩
  obtain ⟨cur, fr, hk⟩ := row_kind h.row e.symm
  rw [hr] at hk; cases hk

set_option maxRecDepth 100000 in
set_option maxHeartbeats 8000000 in
theorem paths_any {w : World} {ptr : Nat → Nat} {g : TreeG} (h : TreeAt w ptr g) (tb to' : Nat) (hc : w.cell? ⟨tb, to', none⟩ = some (topV g)) (hsz : ∀ x ∈ g.ds, x.name.size < 4294967281 ∧ ∀ p ∈ x.files, p.1.size < 4294967281) (hcount : (allPaths g.ds).length < 1099511627776) :
    Calls Tryz.prog 47 #[.pointer (some ⟨tb, to', none⟩)] w fun r w' =>
      ∃ v, r = .returned v ∧ Rowed w w' v (sorted (allPaths g.ds)) := by
  have htl := World.block_lt_of_cell? w _ hc
  unfold topV at hc
  cases hg : g.fm with
  | none =>
    rw [hg] at hc
    have hds := h.none hg
    have hrn := fun (w : World) => run_range_nilMap (P := Tryz.prog) w 58 _ _ Tryz.underlying58
    have hnn := fun ty => run_next_nilMap (P := Tryz.prog) w ty 0 0 #[]
    have hso := AnyM.slices_Sort_string_none Tryz.sortS none 0 (w.alloc (.mapIter none 0 #[] 0))
    change Calls Tryz.prog 82 _ _ _ at hso
    have HSO := Lib.hid hso
    clear h hso
    go_enter Tryz.func47, Tryz.ntmps47
    go_wp2_with fail
    refine wp_loop_rounds 1 ?_
    rw [rounds_succ]
    go_wp2_with (go_at_call 82; ((refine HSO.out.mono ?_); rintro r w5 ⟨rfl, rfl⟩))
    go_ret
    refine ⟨_, rfl, ?_⟩
    rw [hds, (by simp [sorted, allPaths] : sorted (allPaths []) = [])]
    exact ⟨below_alloc _ _, World.ownsRow_nil _ _ _ _, fun k hk => by cases hk⟩
  | some fm =>
    rw [hg] at hc
    have hM := h.top fm hg
    have hfl := hM.lt
    have HT := Lib.hid h
    have HM := Lib.hid hM
    have HSZ := Lib.hid hsz
    have HCT := Lib.hid hcount
    clear h hM hsz hcount
    go_enter Tryz.func47, Tryz.ntmps47
    go_wp2_with (at_range; refine Map.wp_range _ rfl _ rfl Tryz.underlying58 rfl HM.out ?_; intro w1 hr1 hg1 hs1)
    clear hs1
    go_loopg [3] g.ds.length (fun r v wr => ∃ (dx tx : List DirG) (ss : List (List UInt8)), r = tx.length ∧ Hid (RangeIs wr fm w.heap.size (dirEnts dx) (dirEnts tx)) ∧ Hid (Rowed w wr v ss) ∧ Hid ((dx ++ tx).Perm g.ds) ∧ Hid (ss.Perm (allPaths dx)))
    case atStart =>
      exact ⟨[], g.ds, [], rfl, hr1, ⟨(Below.refl _ _).grown hg1 (Nat.le_refl _) (fun k hk => by cases hk), World.ownsRow_nil _ _ _ _, fun k hk => by cases hk⟩, List.Perm.refl _, List.Perm.refl _⟩
    case round =>
      obtain ⟨dx, tx, ss, rfl, HR, HW, HP, HS⟩ := hrel
      obtain ⟨wo, hwo⟩ : ∃ wo : World, wo = wr := ⟨_, rfl⟩
      subst hwo
      go_wp2_with (at_next; refine Map.wp_next _ rfl _ rfl rfl HR.out ?_ ?_)
      · intro ht0
        have htx : tx = [] := by unfold dirEnts at ht0; simpa using ht0
        subst htx
        have hss : ss.Perm (allPaths g.ds) := by
          have hp := HP.out
          rw [List.append_nil] at hp
          exact HS.out.trans (List.Perm.flatMap_right _ hp)
        have hsl : ss.length < 4611686018427387904 := by have := hss.length_eq; have := HCT.out; omega
        have hsort := sort_any _ _ _ ss HW.out.row hsl
        have HSO := Lib.hid hsort
        have HSS := Lib.hid hss
        clear hsort hss hsl
        go_wp2_with (go_at_call 82; ((refine HSO.out.mono ?_); rintro r w5 ⟨rfl, hrow5, hg5⟩))
        go_ret
        have hse : sorted ss = sorted (allPaths g.ds) := mergeSort_of_perm HSS.out
        rw [hse] at hrow5
        have hlen : (sorted (allPaths g.ds)).length = ss.length := by unfold sorted; rw [List.length_mergeSort, HSS.out.length_eq]
        refine ⟨_, rfl, HW.out.below.grown hg5 HW.out.below.size HW.out.new, ?_, HW.out.new⟩
        rw [hlen]
        exact hrow5
      · intro k v t1 t2 w2 htodo hR2 hg2 hs2 hen
        obtain ⟨x1, x, x2, rfl, rfl, rfl, rfl, rfl⟩ := dirEnts_split htodo
        have hxm : x ∈ g.ds := HP.out.mem_iff.1 (by simp)
        have hsrc0 := HT.out.dirs x hxm
        have hxl := hsrc0.lt
        have hsrc : MapIs w2 x.blk (fileEnts ptr x.files) := hsrc0.of_block ((hg2.block _ (by have := HW.out.below.size; omega) (fun e => by injection e with e; omega)).trans (HW.out.below.block _ hxl))
        have HSR := Lib.hid hsrc
        have HR2 := Lib.hid hR2
        have HG2 := Lib.hid hg2
        have HS2 := Lib.hid hs2
        clear hsrc hsrc0 hR2 hg2 hs2 htodo
        go_wp2_with (at_range; refine Map.wp_range _ rfl _ rfl Tryz.underlying128 rfl HSR.out ?_; intro w3 hr3 hg3 hs3)
        have hW2 : Rowed w w2 _ ss := ⟨HW.out.below.grown HG2.out HW.out.below.size (fun k hk => by injection hk with hk; omega), HW.out.row.kept HG2.out (.inr fun e => (HW.out.ne_iter HR.out).1 e.symm), HW.out.new⟩
        have hW3 : Rowed w w3 _ ss := ⟨hW2.below.grown hg3 hW2.below.size (fun k hk => by cases hk), hW2.row.kept hg3 (by cases hh : (Value.ownBlock _) <;> simp), hW2.new⟩
        have hR3 : RangeIs w3 fm w.heap.size (dirEnts dx ++ [(x.name, .map (some x.blk))]) (dirEnts x1 ++ dirEnts x2) := HR2.out.kept (hg3.block _ HR2.out.lt.1 (by simp)) (hg3.block _ HR2.out.lt.2.1 (by simp))
        have hr1l := HR2.out.lt.2.1
        have HW3 := Lib.hid hW3
        have HR3 := Lib.hid hR3
        have Hr3 := Lib.hid hr3
        clear hW2 hW3 hR3 hr3 hg3 hs3
        go_frame
        go_loopg [3] x.files.length (fun r v wr => ∃ (fx ft : List (ByteArray × Nat)) (s2 : List (List UInt8)), r = ft.length ∧ Hid (RangeIs wr x.blk w2.heap.size (fileEnts ptr fx) (fileEnts ptr ft)) ∧ Hid (RangeIs wr fm w.heap.size (dirEnts dx ++ [(x.name, .map (some x.blk))]) (dirEnts x1 ++ dirEnts x2)) ∧ Hid (Rowed w wr v s2) ∧ Hid ((fx ++ ft).Perm x.files) ∧ Hid (s2.Perm (allPaths dx ++ fx.map fun p => lst (pathOf x.name p.1))))
        case atStart => exact ⟨[], x.files, ss, rfl, Hr3.out, HR3.out, HW3.out, List.Perm.refl _, by show List.Perm _ _; simpa using HS.out⟩
        case round =>
          obtain ⟨fx, ft, s2, rfl, IR, IQ, IW, IP, IS⟩ := hrel
          go_wp2_with (at_next; refine Map.wp_next _ rfl _ rfl rfl IR.out ?_ ?_)
          · intro ht0
            have hft : ft = [] := by unfold fileEnts at ht0; simpa using ht0
            subst hft
            go_wp2
            go_roundg (x1 ++ x2).length
            case measure => simp
            case rel =>
              refine ⟨dx ++ [x], x1 ++ x2, s2, rfl, ?_, IW.out, ?_, ?_⟩
              · show RangeIs _ _ _ _ _
                rw [dirEnts_append, dirEnts_append]
                exact IQ.out
              · show List.Perm _ _
                refine List.Perm.trans ?_ HP.out
                rw [List.append_assoc]
                exact List.Perm.append_left _ (by show (x :: (x1 ++ x2)).Perm _; exact List.perm_middle.symm)
              · show List.Perm _ _
                refine IS.out.trans ?_
                have hp := IP.out
                rw [List.append_nil] at hp
                unfold allPaths
                rw [List.flatMap_append]
                refine List.Perm.append_left _ ?_
                simp only [List.flatMap_cons, List.flatMap_nil, List.append_nil]
                exact hp.map _
          · intro k2 v2 u1 u2 w4 htodo4 hR4 hg4 hs4 hen4
            obtain ⟨y1, y, y2, rfl, rfl, rfl, rfl, rfl⟩ := fileEnts_split htodo4
            have hym : y ∈ x.files := IP.out.mem_iff.1 (by simp)
            have hsx := (HSZ.out x hxm).1
            have hsy := (HSZ.out x hxm).2 y hym
            have hcnt : s2.length < 1099511627776 := by
              have h1 := IS.out.length_eq
              have h2 := IP.out.length_eq
              have h3 : (allPaths g.ds).length = (allPaths (dx ++ (x1 ++ x :: x2))).length := (List.Perm.flatMap_right _ HP.out).length_eq.symm
              have h4 := HCT.out
              rw [h3] at h4
              unfold allPaths at h1 h4
              simp only [List.flatMap_append, List.flatMap_cons, List.length_append, List.length_map, pathsOf] at h1 h4
              simp at h2
              omega
            have hW4 : Rowed w w4 _ s2 := ⟨IW.out.below.grown hg4 IW.out.below.size (fun k hk => by injection hk with hk; have := HW.out.below.size; omega), IW.out.row.kept hg4 (.inr fun e => (IW.out.ne_iter IR.out).1 e.symm), IW.out.new⟩
            have hIO4 : RangeIs w4 fm w.heap.size (dirEnts dx ++ [(x.name, .map (some x.blk))]) (dirEnts x1 ++ dirEnts x2) := IQ.out.kept (hg4.block _ IQ.out.lt.1 (fun e => by injection e with e; omega)) (hg4.block _ IQ.out.lt.2.1 (fun e => by injection e with e; omega))
            obtain ⟨P, hP⟩ : ∃ P, pathOf x.name y.1 = P := ⟨_, rfl⟩
            obtain ⟨va, vc, hv, _⟩ := row_len hW4.row
            subst hv
            have hbel : Below w4.heap.size w4 (w4.alloc (.cells #[.string P] 9)) := below_alloc _ _
            obtain ⟨v', w5, hrun, hrow, hg5, hloc⟩ := append_str (w4.alloc (.cells #[.string P] 9)) (.slice va s2.length vc) _ s2.length (hW4.row.alloc _) P w4.heap.size (heap_alloc_new _ _) hcnt
            have hrow' : w5.ownsRow 0 9 1 v' (s2 ++ [lst P]).length ((s2 ++ [lst P]).map encStr) := by
              rw [List.length_append, List.map_append]
              simp only [List.map_cons, List.map_nil, encStr_lst, List.length_cons, List.length_nil]
              exact hrow
            have HRun := Lib.hid hrun
            have HRow := Lib.hid hrow'
            have HG5 := Lib.hid hg5
            have HW4 := Lib.hid hW4
            have HIO4 := Lib.hid hIO4
            have HR4 := Lib.hid hR4
            have HP1 := Lib.hid hP
            have HBel := Lib.hid hbel
            obtain ⟨va2, vc2, rfl, _⟩ := row_len hrow
            clear hrun hrow hrow' hg5 hW4 hIO4 hR4 hbel hg4 hs4 htodo4
            have hfin : ∃ (fx' ft' : List (ByteArray × Nat)) (s3 : List (List UInt8)), (y1 ++ y2).length = ft'.length ∧ Hid (RangeIs w5 x.blk w2.heap.size (fileEnts ptr fx') (fileEnts ptr ft')) ∧ Hid (RangeIs w5 fm w.heap.size (dirEnts dx ++ [(x.name, .map (some x.blk))]) (dirEnts x1 ++ dirEnts x2)) ∧ Hid (Rowed w w5 (.slice va2 (s2.length + 1) vc2) s3) ∧ Hid ((fx' ++ ft').Perm x.files) ∧ Hid (s3.Perm (allPaths dx ++ fx'.map fun p => lst (pathOf x.name p.1))) := by
              have hb5 : ∀ b, b < w4.heap.size → some b ≠ (Value.slice va s2.length vc).ownBlock → w5.heap[b]? = w4.heap[b]? := fun b hb hne => by
                rw [HG5.out.block b (by simp; omega) hne, heap_alloc_old _ _ hb]
              have n1 := HW4.out.ne_iter HR4.out
              have n2 := HW4.out.ne_iter HIO4.out
              have hs4 := HW4.out.below.size
              refine ⟨fx ++ [y], y1 ++ y2, s2 ++ [lst P], rfl, ?_, ?_, ⟨?_, ?_, ?_⟩, ?_, ?_⟩
              · show RangeIs _ _ _ _ _
                have e1 : fileEnts ptr (fx ++ [y]) = fileEnts ptr fx ++ [(y.1, ptrV ptr y.2)] := by simp [fileEnts]
                have e2 : fileEnts ptr (y1 ++ y2) = fileEnts ptr y1 ++ fileEnts ptr y2 := by simp [fileEnts]
                rw [e1, e2]
                exact HR4.out.kept (hb5 _ HR4.out.lt.1 n1.2) (hb5 _ HR4.out.lt.2.1 n1.1)
              · exact HIO4.out.kept (hb5 _ HIO4.out.lt.1 n2.2) (hb5 _ HIO4.out.lt.2.1 n2.1)
              · exact (HW4.out.below.alloc hs4 _).grown HG5.out (by simp; omega) HW4.out.new
              · exact HRow.out
              · intro k hk
                rcases hloc with h1 | h1
                · rw [h1] at hk; exact HW4.out.new k hk
                · rw [h1] at hk; injection hk with hk; simp at hk; omega
              · show List.Perm _ _
                refine List.Perm.trans ?_ IP.out
                rw [List.append_assoc]
                exact List.Perm.append_left _ (by show (y :: (y1 ++ y2)).Perm _; exact List.perm_middle.symm)
              · show List.Perm _ _
                rw [List.map_append, ← List.append_assoc]
                simp only [List.map_cons, List.map_nil, HP1.out]
                exact List.Perm.append_right _ IS.out
            have HFIN := Lib.hid hfin
            clear hfin
            by_cases hx0 : x.name.size = 0
            · have he0 : x.name.toList.isEmpty = true := by rw [isEmpty_iff]; simpa using hx0
              have hPn : P = y.1 := by rw [← HP1.out]; unfold pathOf; rw [if_pos hx0]
              have HPN := Lib.hid hPn
              clear hPn hP
              subst_vars
              rw [HPN.out] at HRun
              go_wp2_with (at_builtin; refine Row.append_by rfl (.tmp 29) (.tmp 31) _ rfl _ _ rfl rfl HRun.out ?_)
              go_roundg (y1 ++ y2).length
              case measure => simp
              case rel => exact HFIN.out
            · have he0 : x.name.toList.isEmpty = false := by
                cases hh : x.name.toList.isEmpty
                · rfl
                · rw [isEmpty_iff] at hh; exact absurd (by simpa using hh) hx0
              have hPn : P = x.name ++ ⟨#[47]⟩ ++ y.1 := by rw [← HP1.out]; unfold pathOf; rw [if_neg hx0]
              have HPN := Lib.hid hPn
              clear hPn hP
              subst_vars
              rw [HPN.out] at HRun
              go_wp2_with (at_builtin; refine Row.append_by rfl (.tmp 29) (.tmp 31) _ rfl _ _ rfl rfl HRun.out ?_)
              go_roundg (y1 ++ y2).length
              case measure => simp
              case rel => exact HFIN.out

end Go.Proofs.YtmmlefbokplnnaaGreatDoor.Disk

namespace Go.Proofs.YtmmlefbokplnnaaGreatDoor.Disk
open Go.RowKit Go Go.Proofs.YtmmlefbokplnnaaGreatDoor.Base Go.Proofs.YtmmlefbokplnnaaGreatDoor.Map

def noSl (s : ByteArray) : Prop := 47 ∉ nums s
theorem sl_none {s : ByteArray} (h : noSl s) : sl s = s.size := by
  unfold sl
  rw [← nums_length]
  refine List.findIdx_eq_length.2 fun x hx => ?_
  simp
  rintro rfl
  exact h hx

theorem nums_path (d n : ByteArray) : nums (d ++ ⟨#[47]⟩ ++ n) = nums d ++ 47 :: nums n := by
  simp [nums, ByteArray.data_append]

theorem sl_path {d n : ByteArray} (h : noSl d) : sl (d ++ ⟨#[47]⟩ ++ n) = d.size := by
  unfold sl
  rw [nums_path, List.findIdx_append, if_neg, List.findIdx_cons]
  · simp [← nums_length]
  · intro hh
    have e : (nums d).findIdx (· == 47) = (nums d).length := by have := sl_none h; unfold sl at this; rw [this, nums_length]
    omega

theorem one47 : (⟨#[47]⟩ : ByteArray).size = 1 := rfl

theorem dirOf_path {d n : ByteArray} (hd : noSl d) (hn : noSl n) : dirOf (pathOf d n) = d := by
  unfold pathOf
  split
  · rename_i h0
    unfold dirOf
    rw [sl_none hn, if_neg (by omega)]
    exact (ByteArray.size_eq_zero_iff.1 h0).symm
  · unfold dirOf
    rw [sl_path hd, if_pos (by rw [ByteArray.size_append, ByteArray.size_append, one47]; omega)]
    rw [ByteArray.append_assoc]
    exact ByteArray.extract_append_eq_left rfl

theorem baseOf_path {d n : ByteArray} (hd : noSl d) (hn : noSl n) : baseOf (pathOf d n) = n := by
  unfold pathOf
  split
  · unfold baseOf
    rw [sl_none hn, if_neg (by omega)]
  · unfold baseOf
    rw [sl_path hd, if_pos (by rw [ByteArray.size_append, ByteArray.size_append, one47]; omega)]
    exact ByteArray.extract_append_eq_right (by simp [ByteArray.size_append]; rfl) (by simp)

/-- names as they are in a tree: no slash, short; the files are there -/
structure Plain (g : TreeG) (n : Nat) : Prop where
  dir : ∀ x ∈ g.ds, noSl x.name ∧ x.name.size < 1000
  file : ∀ x ∈ g.ds, ∀ p ∈ x.files, noSl p.1 ∧ p.1.size < 1000 ∧ p.2 < n

theorem TreeAt.names {w : World} {ptr : Nat → Nat} {g : TreeG} (h : TreeAt w ptr g) : (g.ds.map (·.name)).Nodup ∧ ∀ x ∈ g.ds, (x.files.map (·.1)).Nodup := by
  refine ⟨?_, fun x hx => ?_⟩
  · cases hf : g.fm with
    | none => rw [h.none hf]; exact List.nodup_nil
    | some fm => have := (h.top fm hf).nodup; simpa [keys, dirEnts, Function.comp_def] using this
  · have := (h.dirs x hx).nodup; simpa [keys, fileEnts, Function.comp_def] using this

theorem lookDir_in {g : TreeG} (hn : (g.ds.map (·.name)).Nodup) {x : DirG} (hx : x ∈ g.ds) : lookDir g x.name = some x := by
  unfold lookDir
  obtain ⟨ds, hds⟩ : ∃ ds, g.ds = ds := ⟨_, rfl⟩
  rw [hds] at hn hx ⊢
  clear hds
  induction ds with
  | nil => cases hx
  | cons a r ih =>
    rw [List.map_cons, List.nodup_cons] at hn
    rcases List.mem_cons.1 hx with rfl | hx
    · simp
    · rw [List.find?_cons_of_neg (by simp; rintro e; exact hn.1 (e ▸ List.mem_map_of_mem hx))]
      exact ih hx hn.2

theorem fileOf_mem {w : World} {ptr : Nat → Nat} {g : TreeG} {n : Nat} (h : TreeAt w ptr g) (hp : Plain g n) {x : DirG} (hx : x ∈ g.ds) {p : ByteArray × Nat} (hm : p ∈ x.files) : fileOf g (pathOf x.name p.1) = some p.2 := by
  obtain ⟨h1, h2⟩ := h.names
  unfold fileOf lookFile
  rw [dirOf_path (hp.dir x hx).1 (hp.file x hx p hm).1, baseOf_path (hp.dir x hx).1 (hp.file x hx p hm).1, lookDir_in h1 hx]
  exact (get_some (h2 x hx)).2 hm

theorem bytes_lst (s : ByteArray) : (⟨(lst s).toArray⟩ : ByteArray) = s := by
  cases s; simp [lst]

theorem path_size {d n : ByteArray} (h1 : d.size < 1000) (h2 : n.size < 1000) : (pathOf d n).size < 2001 := by
  unfold pathOf
  split
  · omega
  · simp [ByteArray.size_append]
    have : (⟨#[47]⟩ : ByteArray).size = 1 := rfl
    omega

/-- each path that is listed stands for a file -/
theorem fileOf_listed {w : World} {ptr : Nat → Nat} {g : TreeG} {n : Nat} (h : TreeAt w ptr g) (hp : Plain g n) {s : List UInt8} (hs : s ∈ allPaths g.ds) :
    ∃ k, fileOf g ⟨s.toArray⟩ = some k ∧ k < n ∧ (⟨s.toArray⟩ : ByteArray).size < 2001 := by
  obtain ⟨x, hx, hs⟩ := List.mem_flatMap.1 hs
  obtain ⟨p, hm, rfl⟩ := List.mem_map.1 hs
  rw [bytes_lst]
  exact ⟨p.2, fileOf_mem h hp hx hm, (hp.file x hx p hm).2.2, path_size (hp.dir x hx).2 (hp.file x hx p hm).2.1⟩

def wish (data : List Int) (i : Nat) : Int := if data.length = 0 then 0 else data.getD (i % data.length) 0
def pfKeep (data : List Int) (zeros : Bool) (i : Nat) (p : PF) : PF := p.keep (share (wish data i) (unitsOf p.steps)) zeros
def lenP (pfs : List PF) (k : Nat) : Nat := ((pfs[k]?).map fun p => p.bytes.length).getD 0
/-- the first paths have had their turn -/
def keptN (g : TreeG) (data : List Int) (zeros : Bool) (ps : List (List UInt8)) (pfs : List PF) : Nat → List PF × Nat
  | 0 => (pfs, 0)
  | j + 1 =>
    let r := keptN g data zeros ps pfs j
    match fileOf g ⟨(ps.getD j []).toArray⟩ with
    | none => r
    | some k => (r.1.modify k (pfKeep data zeros j), r.2 + lenP (r.1.modify k (pfKeep data zeros j)) k)

theorem keptN_length (g : TreeG) (data : List Int) (zeros : Bool) (ps : List (List UInt8)) (pfs : List PF) (j : Nat) : (keptN g data zeros ps pfs j).1.length = pfs.length := by
  induction j with
  | zero => rfl
  | succ j ih =>
    unfold keptN
    split <;> simp [ih]

theorem keep_good {B : Nat} {p : PF} (h : p.Good B) (n : Nat) (hn : n ≤ unitsOf p.steps) (z : Bool) : (p.keep n z).Good B := by
  obtain ⟨h1, h2⟩ := Good.undo h (unitsOf p.steps - n) (by rw [unitsOf_reverse]; omega)
  unfold PF.keep PF.Good
  simp only [List.reverse_nil]
  have hb : p.bytes.length ≤ B := h.len
  split
  · rename_i hz
    refine ⟨?_, fun x hx => ?_⟩
    · have := h2 (by revert hz; cases (undoR p.steps.reverse p.bytes (unitsOf p.steps - n)).2 <;> simp)
      rw [List.length_append, List.length_replicate]
      omega
    · rcases List.mem_append.1 hx with hx | hx
      · exact h1.2 x hx
      · have := List.eq_of_mem_replicate hx; omega
  · exact h1

end Go.Proofs.YtmmlefbokplnnaaGreatDoor.Disk

namespace Go.Proofs.YtmmlefbokplnnaaGreatDoor.Disk
open Go.RowKit Go Go.Proofs.YtmmlefbokplnnaaGreatDoor.Base Go.Proofs.YtmmlefbokplnnaaGreatDoor.Map

theorem Cloning.tree {w wr : World} {ptr : Nat → Nat} {F : Nat} {dl : List DirG} (h : Cloning w wr ptr F dl) : TreeAt wr ptr ⟨some F, dl⟩ := by
  refine ⟨fun hh => (by cases hh), fun fm hh => ?_, h.dirs, ?_⟩
  · injection hh with hh
    subst hh
    exact h.top
  · unfold TreeG.blocks
    simp only [Option.toList_some, List.cons_append, List.nil_append, List.nodup_cons]
    refine ⟨fun hh => ?_, h.apart⟩
    obtain ⟨x, hx, e⟩ := List.mem_map.1 hh
    exact (h.new x hx).2 e

theorem setD {S : Nat → Prop} {w w' : World} (h : Turn S w w') (D i : Nat) (v : Value) : Turn (fun q => q = D ∨ S q) w (w'.setCell ⟨D, i, none⟩ v) :=
  (h.mono (fun _ _ hh => Or.inr hh)).set _ _ (fun _ => Or.inl rfl)

theorem modify_set {α : Type} (l : List α) (k : Nat) (f : α → α) (hk : k < l.length) : l.modify k f = l.set k (f (l[k]'hk)) := by
  refine List.ext_getElem? fun i => ?_
  rw [List.getElem?_modify, List.getElem?_set]
  by_cases h : k = i
  · subst h; simp [hk]
  · simp [h]

theorem DiskAt.recloned {w w' : World} {D : Nat} {G : DiskG} {F : Nat} {dl : List DirG} (h : DiskAt w D G) (hc : Cloning w w' G.ptr F dl) : DiskAt (w'.setCell ⟨D, 0, none⟩ (.map (some F))) D { G with gc := ⟨some F, dl⟩ } := by
  have h' := h.below hc.below
  refine h'.set 0 (.map (some F)) _ rfl fun hp => ⟨hc.tree, hp.dur, fun b hb hb2 => ?_, hp.row, hp.steps, hp.files, hp.inj, hp.bytes, hp.rows⟩
  have h1 := h.parts.dur.lt b hb2
  have h2 := hc.base
  unfold TreeG.blocks at hb
  simp only [Option.toList_some, List.cons_append, List.nil_append, List.mem_cons, List.mem_map] at hb
  rcases hb with rfl | ⟨x, hx, rfl⟩
  · omega
  · have := (h.parts.dur.lt _ hb2); have := (hc.new x hx).1; omega

theorem row_at {w : World} {e : TypeId} {v : Value} {n : Nat} {xs : List Value} (h : w.ownsRow 0 e 1 v n xs) (j : Nat) (hj : j < n) : ∃ g cap, v = .slice (some ⟨g, 0, none⟩) n cap ∧ g < w.heap.size ∧ w.cell? ⟨g, j, none⟩ = xs[j]? := by
  rcases h.2 with ⟨_, h0⟩ | ⟨g, cap, cur, rfl, h1, h2, _⟩
  · omega
  · refine ⟨g, cap, rfl, (Array.getElem?_eq_some_iff.1 h2).1, ?_⟩
    have hl : j < xs.length := by have := h.1; omega
    have := h.cells (g := g) rfl j _ (List.getElem?_eq_getElem hl)
    rw [Go.WideShapes.add_plain, Nat.zero_add] at this
    rw [this, List.getElem?_eq_getElem hl]

def ints (l : List Int) : List Value := l.map fun x => .int .i64 x

/-- a Restart under way: the first paths have had their turn -/
structure Keeping (w : World) (D : Nat) (G2 : DiskG) (data : List Int) (zeros : Bool) (ps : List (List UInt8)) (vps vd : Value) (wr : World) (j : Nat) (G' : DiskG) : Prop where
  disk : DiskAt wr D G'
  same : G' = { G2 with pfs := (keptN G2.gc data zeros ps G2.pfs j).1, used := (keptN G2.gc data zeros ps G2.pfs j).2, bvs := G'.bvs, svs := G'.svs }
  row : wr.ownsRow 0 9 1 vps ps.length (ps.map encStr)
  data : wr.ownsRow 0 3 1 vd data.length (ints data)
  turn : Turn (G2.own D) w wr
  own : ∀ k, G'.own D k → G2.own D k ∨ w.heap.size ≤ k

theorem Keeping.len {w : World} {D : Nat} {G2 : DiskG} {data : List Int} {zeros : Bool} {ps : List (List UInt8)} {vps vd : Value} {wr : World} {j : Nat} {G' : DiskG} (h : Keeping w D G2 data zeros ps vps vd wr j G') : G'.pfs.length = G2.pfs.length := by
  rw [h.same]; exact keptN_length _ _ _ _ _ _

theorem Keeping.below {w : World} {D : Nat} {G2 : DiskG} {data : List Int} {zeros : Bool} {ps : List (List UInt8)} {vps vd : Value} {wr w3 : World} {j : Nat} {G' : DiskG} (h : Keeping w D G2 data zeros ps vps vd wr j G') (hb : Below wr.heap.size wr w3) : Keeping w D G2 data zeros ps vps vd w3 j G' :=
  ⟨h.disk.below hb, h.same, row_turn h.row (Turn.of_below (S := fun _ => False) hb) (fun _ _ h => h), row_turn h.data (Turn.of_below (S := fun _ => False) hb) (fun _ _ h => h), h.turn.trans (S' := fun _ => False) (Turn.of_below hb) (fun _ _ h => h.elim), h.own⟩

theorem Keeping.next {w : World} {D : Nat} {G2 : DiskG} {data : List Int} {zeros : Bool} {ps : List (List UInt8)} {vps vd : Value} {wr : World} {j : Nat} {G' : DiskG} (h : Keeping w D G2 data zeros ps vps vd wr j G')
    {k : Nat} (hk : fileOf G2.gc ⟨(ps.getD j []).toArray⟩ = some k) (hkl : k < G'.pfs.length) {w3 : World} {bv' : Value} (hf : FileAt w3 (G'.ptr k) bv' (.slice none 0 0) (pfKeep data zeros j (G'.pfs[k]'hkl)))
    (ht : Turn (fun q => q = G'.ptr k ∨ (G'.bvs k).ownBlock = some q) wr w3) (hb : bv'.ownBlock = (G'.bvs k).ownBlock ∨ ∃ q, bv'.ownBlock = some q ∧ wr.heap.size ≤ q) :
    Keeping w D G2 data zeros ps vps vd (w3.setCell ⟨D, 4, none⟩ (.int .i64 ((G'.used + (pfKeep data zeros j (G'.pfs[k]'hkl)).bytes.length : Nat) : Int))) (j + 1) { G'.file k (pfKeep data zeros j (G'.pfs[k]'hkl)) bv' (.slice none 0 0) with used := G'.used + (pfKeep data zeros j (G'.pfs[k]'hkl)).bytes.length } := by
  have hfk := h.disk.parts.files k hkl
  have hts : Turn (fileOwn (G'.ptr k) (G'.bvs k) (G'.svs k)) wr w3 := ht.mono fun q _ hh => by
    rcases hh with hh | hh
    · exact .inl hh
    · exact .inr (.inl hh)
  have hl1 : locOk wr (G'.bvs k) bv' := by rcases hb with h1 | h1; exact .inl h1; exact .inr (.inr h1)
  have hl2 : locOk wr (G'.svs k) (.slice none 0 0) := .inr (.inl rfl)
  have hd := h.disk.filed hkl hf hts hl1 hl2
  have hown : ∀ q, (G'.file k (pfKeep data zeros j (G'.pfs[k]'hkl)) bv' (.slice none 0 0)).own D q → G'.own D q ∨ wr.heap.size ≤ q := fun q hq => own_file hkl hl1 hl2 hq
  have hrk : ∀ {e : TypeId} {v : Value} {n : Nat} {xs : List Value}, wr.ownsRow 0 e 1 v n xs → e ≠ 94 → e ≠ 5 → e ≠ 135 → e ≠ 63 → (w3.setCell ⟨D, 4, none⟩ (.int .i64 ((G'.used + (pfKeep data zeros j (G'.pfs[k]'hkl)).bytes.length : Nat) : Int))).ownsRow 0 e 1 v n xs := by
    intro e v n xs hr n1 n2 n3 n4
    refine row_turn hr (setD hts D 4 _) fun q hq hh => ?_
    rcases hh with hh | hh
    · subst hh; exact (row_kind hr hq).ne h.disk.kind n4 rfl
    · rcases hfk.kinds hh with h1 | h1 | h1
      · exact (row_kind hr hq).ne h1 n1 rfl
      · exact (row_kind hr hq).ne h1 n2 rfl
      · exact (row_kind hr hq).ne h1 n3 rfl
  refine ⟨?_, ?_, hrk h.row (by decide) (by decide) (by decide) (by decide), hrk h.data (by decide) (by decide) (by decide) (by decide), ?_, ?_⟩
  · exact hd.set 4 _ _ rfl fun hp => ⟨hp.cur, hp.dur, hp.trees, hp.row, hp.steps, hp.files, hp.inj, hp.bytes, hp.rows⟩
  · have hs := h.same
    have hp : G'.pfs = (keptN G2.gc data zeros ps G2.pfs j).1 := by rw [hs]
    have hu : G'.used = (keptN G2.gc data zeros ps G2.pfs j).2 := by rw [hs]
    have e : keptN G2.gc data zeros ps G2.pfs (j + 1) = (G'.pfs.set k (pfKeep data zeros j (G'.pfs[k]'hkl)), G'.used + (pfKeep data zeros j (G'.pfs[k]'hkl)).bytes.length) := by
      rw [keptN]
      simp only [hk]
      rw [← hp, ← hu]
      have e1 : G'.pfs.modify k (pfKeep data zeros j) = G'.pfs.set k (pfKeep data zeros j (G'.pfs[k]'hkl)) := modify_set _ _ _ hkl
      rw [e1]
      unfold lenP
      simp [hkl]
    rw [e]
    obtain ⟨gc, gd, ptr, pfs, bvs, svs, steps, nv, cap, used, off, crash⟩ := G'
    obtain ⟨gc2, gd2, ptr2, pfs2, bvs2, svs2, steps2, nv2, cap2, used2, off2, crash2⟩ := G2
    simp only [DiskG.mk.injEq] at hs
    simp only [DiskG.file, DiskG.mk.injEq]
    obtain ⟨e1, e2, e3, _, _, _, e4, e5, e6, _, e7, e8⟩ := hs
    simp [e1, e2, e3, e4, e5, e6, e7, e8]
  · refine h.turn.trans (setD hts D 4 _) fun q hq hh => ?_
    have : G'.own D q := by
      rcases hh with hh | hh
      · exact .inl hh
      · exact .inr (.inr (.inr (.inr (.inr ⟨k, hkl, hh⟩))))
    rcases h.own q this with h1 | h1
    · exact h1
    · omega
  · intro q hq
    rcases hown q hq with h1 | h1
    · exact h.own q h1
    · have := h.turn.size; exact .inr (by omega)

theorem Keeping.cell4 {w : World} {D : Nat} {G2 : DiskG} {data : List Int} {zeros : Bool} {ps : List (List UInt8)} {vps vd : Value} {wr : World} {j : Nat} {G' : DiskG} (h : Keeping w D G2 data zeros ps vps vd wr j G')
    {k : Nat} (hkl : k < G'.pfs.length) {w3 : World} {bv' : Value} {p : PF} (hf : FileAt w3 (G'.ptr k) bv' (.slice none 0 0) p)
    (ht : Turn (fun q => q = G'.ptr k ∨ (G'.bvs k).ownBlock = some q) wr w3) (hb : bv'.ownBlock = (G'.bvs k).ownBlock ∨ ∃ q, bv'.ownBlock = some q ∧ wr.heap.size ≤ q) :
    w3.cell? ⟨D, 4, none⟩ = some (.int .i64 (G'.used : Int)) ∧ w3.frozen? ⟨D, 4, none⟩ = false := by
  have hts : Turn (fileOwn (G'.ptr k) (G'.bvs k) (G'.svs k)) wr w3 := ht.mono fun q _ hh => by
    rcases hh with hh | hh
    · exact .inl hh
    · exact .inr (.inl hh)
  have hd := h.disk.filed hkl hf hts (by rcases hb with h1 | h1; exact .inl h1; exact .inr (.inr h1)) (.inr (.inl rfl))
  exact ⟨hd.cell 4, hd.fro 4⟩

end Go.Proofs.YtmmlefbokplnnaaGreatDoor.Disk

namespace Go.Proofs.YtmmlefbokplnnaaGreatDoor.Disk
open Go.RowKit Go Go.Proofs.YtmmlefbokplnnaaGreatDoor.Base Go.Proofs.YtmmlefbokplnnaaGreatDoor.Map

theorem name_noSl {s : ByteArray} (h : isName s = true) : noSl s := by
  unfold isName at h
  rw [Bool.and_eq_true, List.all_eq_true] at h
  intro hm
  have := h.2 47 hm
  revert this
  decide
theorem name_size {s : ByteArray} (h : isName s = true) : 1 ≤ s.size ∧ s.size ≤ 32 := by
  unfold isName at h
  rw [Bool.and_eq_true, decide_eq_true_eq] at h
  exact h.1
theorem noSl_sl {s : ByteArray} (h : noSl s) : ¬ sl s < s.size := by rw [sl_none h]; omega

theorem dirOf_noSl {s : ByteArray} (h : noSl s) : dirOf s = ByteArray.empty := by unfold dirOf; rw [if_neg (noSl_sl h)]
theorem baseOf_noSl {s : ByteArray} (h : noSl s) : baseOf s = s := by unfold baseOf; rw [if_neg (noSl_sl h)]
theorem name_path {s : ByteArray} (h : isName s = true) : isPath s = true := by
  unfold isPath; rw [if_neg (noSl_sl (name_noSl h))]; exact h

/-- a path is a name, or two -/
theorem path_cases {p : ByteArray} (h : isPath p = true) : (¬ sl p < p.size ∧ isName p = true ∧ dirOf p = ByteArray.empty ∧ baseOf p = p) ∨
    (sl p < p.size ∧ isName (dirOf p) = true ∧ isName (baseOf p) = true ∧ dirOf p = p.extract 0 (sl p) ∧ baseOf p = p.extract (sl p + 1) p.size) := by
  unfold isPath at h
  unfold dirOf baseOf
  by_cases hs : sl p < p.size
  · rw [if_pos hs] at h ⊢
    rw [Bool.and_eq_true] at h
    rw [if_pos hs]
    exact .inr ⟨hs, h.1, h.2, rfl, rfl⟩
  · rw [if_neg hs] at h ⊢
    rw [if_neg hs]
    exact .inl ⟨hs, h, rfl, rfl⟩

theorem path_base {p : ByteArray} (h : isPath p = true) : isName (baseOf p) = true := by
  rcases path_cases h with ⟨_, h1, _, h2⟩ | ⟨_, _, h1, _⟩
  · rw [h2]; exact h1
  · exact h1
theorem path_dir {p : ByteArray} (h : isPath p = true) : dirOf p = ByteArray.empty ∨ isName (dirOf p) = true := by
  rcases path_cases h with ⟨_, _, h2, _⟩ | ⟨_, h1, _⟩
  · exact .inl h2
  · exact .inr h1
theorem noSl_empty : noSl ByteArray.empty := by intro h; cases h
theorem path_dir_noSl {p : ByteArray} (h : isPath p = true) : noSl (dirOf p) := by
  rcases path_dir h with h | h
  · rw [h]; exact noSl_empty
  · exact name_noSl h

theorem nums_cut {p : ByteArray} (hs : sl p < p.size) : nums p = (nums p).take (sl p) ++ 47 :: (nums p).drop (sl p + 1) := by
  have hl : sl p < (nums p).length := by rw [nums_length]; exact hs
  have h47 : (nums p)[sl p]'hl = 47 := by
    have := sl_at p hs
    unfold at8 at this
    rwa [List.getD, List.getElem?_eq_getElem hl, Option.getD_some] at this
  rw [← h47]
  rw [← List.drop_eq_getElem_cons hl, List.take_append_drop]

theorem path_join {p : ByteArray} (h : isPath p = true) : pathOf (dirOf p) (baseOf p) = p := by
  rcases path_cases h with ⟨_, _, h2, h3⟩ | ⟨hs, h1, _, h2, h3⟩
  · rw [h2, h3]; rfl
  · have := name_size h1
    unfold pathOf
    rw [if_neg (by omega)]
    apply nums_inj
    rw [nums_path, h2, h3, nums_extract, nums_extract, List.drop_zero, Nat.sub_zero]
    rw [List.take_of_length_le (l := (nums p).drop (sl p + 1)) (by rw [List.length_drop, nums_length]; omega)]
    exact (nums_cut hs).symm

/-- the two parts say which path it is -/
theorem path_ext {p q : ByteArray} (hp : isPath p = true) (hq : isPath q = true) (h1 : dirOf p = dirOf q) (h2 : baseOf p = baseOf q) : p = q := by
  rw [← path_join hp, ← path_join hq, h1, h2]

theorem size_zero {s : ByteArray} (h : s.size = 0) : s = ByteArray.empty := ByteArray.size_eq_zero_iff.1 h

theorem path_of {d n : ByteArray} (hd : d = ByteArray.empty ∨ isName d = true) (hn : isName n = true) : isPath (pathOf d n) = true := by
  unfold pathOf
  rcases hd with rfl | hd
  · exact name_path hn
  · have := name_size hd
    rw [if_neg (by omega)]
    unfold isPath
    have hs : sl (d ++ ⟨#[47]⟩ ++ n) = d.size := sl_path (name_noSl hd)
    rw [hs, if_pos (by rw [ByteArray.size_append, ByteArray.size_append, one47]; omega)]
    have e1 : (d ++ ⟨#[47]⟩ ++ n).extract 0 d.size = d := by rw [ByteArray.append_assoc]; exact ByteArray.extract_append_eq_left rfl
    have e2 : (d ++ ⟨#[47]⟩ ++ n).extract (d.size + 1) (d ++ ⟨#[47]⟩ ++ n).size = n := ByteArray.extract_append_eq_right (by simp [ByteArray.size_append]; rfl) (by simp)
    rw [e1, e2, hd, hn]; rfl

/-- a path lies in a directory -/
theorem inside_iff {p d : ByteArray} (hp : isPath p = true) : inside p d = true ↔ d = dirOf p ∧ d.size ≠ 0 := by
  unfold inside
  rw [Bool.and_eq_true, Bool.and_eq_true, decide_eq_true_eq, decide_eq_true_eq, beq_iff_eq]
  rcases path_cases hp with ⟨hs, h1, h2, h3⟩ | ⟨hs, h1, hb, h2, h3⟩
  · constructor
    · rintro ⟨⟨a1, a2⟩, a3⟩
      exfalso
      refine name_noSl h1 ?_
      unfold at8 at a3
      have hl : d.size < (nums p).length := by rw [nums_length]; exact a1
      rw [List.getD, List.getElem?_eq_getElem hl, Option.getD_some] at a3
      rw [← a3]; exact List.getElem_mem hl
    · rintro ⟨rfl, a2⟩
      rw [h2] at a2
      exact absurd rfl a2
  · constructor
    · rintro ⟨⟨a1, a2⟩, a3⟩
      have hl : d.size < (nums p).length := by rw [nums_length]; exact a1
      have e : d.size = sl p := by
        rcases Nat.lt_trichotomy d.size (sl p) with h | h | h
        · exact absurd a3 (sl_before p _ h)
        · exact h
        · exfalso
          refine name_noSl hb ?_
          rw [h3, nums_extract, List.take_of_length_le (by rw [List.length_drop, nums_length]; omega)]
          unfold at8 at a3
          rw [List.getD, List.getElem?_eq_getElem hl, Option.getD_some] at a3
          rw [← a3]
          refine List.mem_iff_getElem.2 ⟨d.size - (sl p + 1), by rw [List.length_drop]; omega, ?_⟩
          rw [List.getElem_drop]
          congr 1
          omega
      have e2 : d = dirOf p := by rw [h2, ← a2, e]
      refine ⟨e2, ?_⟩
      have := name_size h1
      rw [e2]; omega
    · rintro ⟨rfl, a2⟩
      have e : (dirOf p).size = sl p := by rw [h2, ByteArray.size_extract]; omega
      refine ⟨⟨by rw [e]; exact hs, by rw [e, h2]⟩, by rw [e]; exact sl_at p hs⟩

theorem inside_name {p d : ByteArray} (hp : isName p = true) : inside p d = false := by
  cases h : inside p d with
  | false => rfl
  | true =>
    have := (inside_iff (name_path hp)).1 h
    rw [dirOf_noSl (name_noSl hp)] at this
    exact absurd (by rw [this.1]; rfl) this.2

/-- a file moves with its directory -/
theorem moved_path {p a b : ByteArray} (hp : isPath p = true) (hi : inside p a = true) (hb : b.size ≠ 0) : b ++ p.extract a.size p.size = pathOf b (baseOf p) := by
  obtain ⟨rfl, h0⟩ := (inside_iff hp).1 hi
  rcases path_cases hp with ⟨hs, h1, h2, h3⟩ | ⟨hs, h1, hbn, h2, h3⟩
  · rw [h2] at h0; exact absurd rfl h0
  · have e : (dirOf p).size = sl p := by rw [h2, ByteArray.size_extract]; omega
    unfold pathOf
    rw [if_neg hb]
    apply nums_inj
    have hl : sl p < (nums p).length := by rw [nums_length]; exact hs
    have h47 : (nums p)[sl p]'hl = 47 := by
      have := sl_at p hs
      unfold at8 at this
      rwa [List.getD, List.getElem?_eq_getElem hl, Option.getD_some] at this
    rw [nums_path, nums_append, nums_extract, h3, nums_extract, e, List.take_of_length_le (by rw [List.length_drop, nums_length]; omega), List.take_of_length_le (by rw [List.length_drop, nums_length]; omega), List.drop_eq_getElem_cons hl, h47]

end Go.Proofs.YtmmlefbokplnnaaGreatDoor.Disk

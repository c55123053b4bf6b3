/-
  The texts RInsert, RList, RCreate, joined. Own text.
-/
import Derived.Test.YtmmlefbokplnnaaGreatDoorJ27
import Derived.Test.YtmmlefbokplnnaaGreatDoorJ07
import Derived.Test.YtmmlefbokplnnaaGreatDoorJ26
import Derived.Test.YtmmlefbokplnnaaGreatDoorJ28
set_option linter.unusedVariables false
set_option linter.unusedSimpArgs false
namespace Go.Proofs.YtmmlefbokplnnaaGreatDoor.Disk
open Go.RowKit Go Go.Proofs.YtmmlefbokplnnaaGreatDoor.Base Go.Proofs.YtmmlefbokplnnaaGreatDoor.Map
open Go.Proofs.YtmmlefbokplnnaaGreatDoor.Lab (cmpS cmpS_ord less_cmp)

def entC (e : Ent) : List Value := [.string e.name, .bool e.dir, .int .i64 (e.size : Int)]

theorem entry_info : (Tryz.prog.info? 56).map (fun i => (i.zero, i.size, i.bytes)) = some (some (.agg #[.string ⟨#[]⟩, .bool false, .int .i64 0]), 3, 32) := by kernel_rfl

theorem entry_push (w : World) (v : Value) (n : Nat) (l : List Ent) (x : Ent) (hown : w.ownsRow 0 56 3 v n (l.flatMap entC)) (b : Nat) (hb : w.heap[b]? = some (.cells #[.string x.name, .bool x.dir, .int .i64 (x.size : Int)] 56)) (hl : n < 1099511627776) :
    ∃ v' w', (Builtin.append_ #[53, 53] 53 #[v, .slice (some ⟨b, 0, none⟩) 1 1]).run Tryz.prog w = .ok v' w' ∧ w'.ownsRow 0 56 3 v' (n + 1) ((l ++ [x]).flatMap entC) ∧ w.grownBy w' v.ownBlock ∧ (v'.ownBlock = v.ownBlock ∨ v'.ownBlock = some w.heap.size) := by
  rw [List.flatMap_append, show [x].flatMap entC = entC x from by simp]
  exact row_push Tryz.underlying53 entry_info rfl (by decide) (by decide) w v n _ hown (entC x) rfl (by intro u hu; simp [entC] at hu; rcases hu with rfl | rfl | rfl <;> rfl) b hb hl

/-- a list of entries, made since w -/
structure OutE (w : World) (l : List Ent) (wr : World) (v : Value) : Prop where
  row : wr.ownsRow 0 56 3 v l.length (l.flatMap entC)
  below : Below w.heap.size w wr
  fresh : ∀ k, v.ownBlock = some k → w.heap.size ≤ k

section
variable {w wr w' : World} {l : List Ent} {v : Value}

theorem OutE.nil (hb : Below w.heap.size w w') : OutE w [] w' (.slice none 0 0) := ⟨World.ownsRow_nil _ _ _ _, hb, fun k hk => by cases hk⟩
theorem OutE.shape (h : OutE w l wr v) : ∃ ao cap, v = .slice ao l.length cap := by
  obtain ⟨ao, cap, h1, _⟩ := row_open (f := entC) (k := 3) (fun _ => rfl) h.row rfl
  exact ⟨ao, cap, h1⟩
theorem OutE.kept (h : OutE w l wr v) (hb : Below wr.heap.size wr w') : OutE w l w' v :=
  ⟨row_turn (S := fun _ => False) h.row (Turn.of_below hb) (fun _ _ => id), h.below.trans (hb.mono h.below.size), h.fresh⟩
theorem OutE.push (h : OutE w l wr v) (x : Ent) (b : Nat) (hb : wr.heap[b]? = some (.cells #[.string x.name, .bool x.dir, .int .i64 (x.size : Int)] 56)) (hl : l.length < 1099511627776) :
    ∃ v' w', (Builtin.append_ #[53, 53] 53 #[v, .slice (some ⟨b, 0, none⟩) 1 1]).run Tryz.prog wr = .ok v' w' ∧ OutE w (l ++ [x]) w' v' := by
  obtain ⟨v', w', h1, h2, h3, h4⟩ := entry_push wr v l.length l x h.row b hb hl
  refine ⟨v', w', h1, ?_, h.below.grown h3 h.below.size h.fresh, ?_⟩
  · rw [List.length_append]; exact h2
  · intro k hk
    rcases h4 with h4 | h4
    · rw [h4] at hk; exact h.fresh k hk
    · rw [h4] at hk; injection hk with hk; have := h.below.size; omega

/-- an entry stored -/
theorem OutE.stored {g n cap : Nat} (h : OutE w l wr (.slice (some ⟨g, 0, none⟩) n cap)) (hn : l.length = n) (j : Nat) (hj : j < n) (x : Ent) :
    OutE w (l.set j x) (((wr.setCell ⟨g, j * 3, none⟩ (.string x.name)).setCell ⟨g, j * 3 + 1, none⟩ (.bool x.dir)).setCell ⟨g, j * 3 + 2, none⟩ (.int .i64 (x.size : Int))) (.slice (some ⟨g, 0, none⟩) n cap) := by
  subst hn
  have r1 := (h.row.stored (j * 3) (.string x.name)).1
  have r2 := (r1.stored (j * 3 + 1) (.bool x.dir)).1
  have r3 := (r2.stored (j * 3 + 2) (.int .i64 (x.size : Int))).1
  rw [flat_set3 (f := entC) (fun _ => rfl) l j x _ _ _ rfl hj] at r3
  have hg : w.heap.size ≤ g := h.fresh g rfl
  refine ⟨by rw [List.length_set]; exact r3, ((h.below.setCell hg _).setCell hg _).setCell hg _, h.fresh⟩

end

set_option maxRecDepth 100000 in
set_option maxHeartbeats 4000000 in
theorem insert_ref {w wo : World} {S : List Ent} {v : Value} (h : OutE w S wo v) (hl : S.length < 1000000000000) (x : Ent) :
    Calls Tryz.prog 53 #[v, .agg #[.string x.name, .bool x.dir, .int .i64 (x.size : Int)]] wo fun r w' => ∃ v', r = .returned v' ∧ OutE w (insE S x) w' v' := by
  obtain ⟨xn, xd, xs⟩ := x
  obtain ⟨n, hn⟩ : ∃ n, S.length = n := ⟨_, rfl⟩
  obtain ⟨ao, cap, rfl⟩ := h.shape
  rw [hn] at h hl ⊢
  obtain ⟨F, hF⟩ : ∃ F, insE S ⟨xn, xd, xs⟩ = F := ⟨_, rfl⟩
  rw [hF]
  have hb1 : Below wo.heap.size wo (wo.alloc (.cells #[.string xn, .bool xd, .int .i64 (xs : Int)] 56)) := below_alloc _ _
  obtain ⟨v', w1, hrun, hR⟩ := ((h.kept hb1).kept (below_alloc _ (.cells #[.string xn, .bool xd, .int .i64 (xs : Int)] 56))).push ⟨xn, xd, xs⟩ _ (heap_alloc_new _ _) (by omega)
  have hs2 : (wo.alloc (.cells #[.string xn, .bool xd, .int .i64 (xs : Int)] 56)).heap.size = wo.heap.size + 1 := by simp
  rw [hs2] at hrun
  obtain ⟨ao', cap', rfl⟩ := hR.shape
  have hln : (S ++ [(⟨xn, xd, xs⟩ : Ent)]).length = n + 1 := by simp [hn]
  rw [hln] at hrun hR
  have hget : ∃ g, ao' = some ⟨g, 0, none⟩ := by
    obtain ⟨ao2, cap2, e, _, hr⟩ := row_open (f := entC) (k := 3) (fun _ => rfl) hR.row rfl
    obtain ⟨g, hg, _⟩ := hr 0 (by rw [hln]; omega)
    injection e with e1
    exact ⟨g, by rw [e1]; exact hg⟩
  obtain ⟨g, rfl⟩ := hget
  have HRun := Lib.hid hrun
  have HR1 := Lib.hid hR
  have HF := Lib.hid hF
  have HN := Lib.hid hn
  clear h hn hF hrun hR hb1 hs2 hln
  go_enter Tryz.func53, Tryz.ntmps53
  go_wp2_with (at_builtin; refine Row.append_by rfl (.tmp 7) (.tmp 9) _ rfl _ _ rfl rfl HRun.out ?_)
  go_loopg [5] n (fun r q wi => ∃ j : Nat, Hid (j = r) ∧ j ≤ n ∧ q = .int .i64 (j : Int) ∧ Hid (insAt S ⟨xn, xd, xs⟩ j = F) ∧ Hid (OutE w (putAt S ⟨xn, xd, xs⟩ j) wi (.slice (some ⟨g, 0, none⟩) (n + 1) cap')))
  case atStart =>
    refine ⟨n, rfl, Nat.le_refl _, by go_num, ?_, ?_⟩
    · show _ = _; rw [← HF.out, ← HN.out]; rfl
    · show OutE _ _ _ _
      rw [← HN.out, putAt_end, HN.out]; exact HR1.out
  case round =>
    obtain ⟨j, HJ, hjn, rfl, HI, HROW⟩ := hrel
    rcases Nat.eq_zero_or_pos j with rfl | hpos
    · have e0 : putAt S ⟨xn, xd, xs⟩ 0 = F := HI.out
      have HE := Lib.hid e0
      clear e0
      go_wp2_with fail
      go_quiet (fail)
      go_wp2
      go_ret
      exact ⟨_, rfl, by rw [← HE.out]; exact HROW.out.kept ((Below.refl _ _).drewN _)⟩
    · obtain ⟨u, rfl⟩ : ∃ u, j = u + 1 := ⟨j - 1, by omega⟩
      clear hpos
      have hj2 : u + 1 ≤ S.length := by rw [HN.out]; exact hjn
      have hlen1 : (putAt S ⟨xn, xd, xs⟩ (u + 1)).length = n + 1 := by rw [putAt_length _ _ _ hj2, HN.out]
      obtain ⟨ao2, cap2, e, _, hr⟩ := row_open (f := entC) (k := 3) (fun _ => rfl) HROW.out.row rfl
      injection e with e1 e2 e3
      clear e2 e3
      obtain ⟨g', hg', hgl, hx⟩ := hr (u + 1) (by rw [hlen1]; omega)
      obtain ⟨g'', hg'', _, hy⟩ := hr u (by rw [hlen1]; omega)
      rw [← e1] at hg' hg''
      injection hg' with hg'
      injection hg' with hg'
      injection hg'' with hg''
      injection hg'' with hg''
      subst hg'
      rw [← hg''] at hy
      have hax : (putAt S ⟨xn, xd, xs⟩ (u + 1))[u + 1]'(by rw [hlen1]; omega) = ⟨xn, xd, xs⟩ := by
        have := putAt_at S ⟨xn, xd, xs⟩ (u + 1) hj2
        rwa [getElem!_pos _ _ (by rw [hlen1]; omega)] at this
      have hay : (putAt S ⟨xn, xd, xs⟩ (u + 1))[u]'(by rw [hlen1]; omega) = S[u]! := by
        have := putAt_before S ⟨xn, xd, xs⟩ u hj2
        rwa [getElem!_pos _ _ (by rw [hlen1]; omega)] at this
      rw [hax] at hx
      rw [hay] at hy
      have hsw := putAt_swap S ⟨xn, xd, xs⟩ u hj2
      have hi := HI.out
      unfold insAt at hi
      have hrw := HROW.out.row
      rw [hlen1] at hrw
      have hfz : ∀ i, wr.frozen? ⟨g, i, none⟩ = false := fun i => World.ownsRow.frozenAt hrw i
      clear hrw
      generalize hyy : S[u]! = y at hy hsw hi
      obtain ⟨yn, yd, ys⟩ := y
      have x0 : wr.cell? ⟨g, (u + 1) * 3, none⟩ = some (.string xn) := hx 0 (by omega)
      have x1 : wr.cell? ⟨g, (u + 1) * 3 + 1, none⟩ = some (.bool xd) := hx 1 (by omega)
      have x2 : wr.cell? ⟨g, (u + 1) * 3 + 2, none⟩ = some (.int .i64 (xs : Int)) := hx 2 (by omega)
      have y0 : wr.cell? ⟨g, u * 3, none⟩ = some (.string yn) := hy 0 (by omega)
      have y1 : wr.cell? ⟨g, u * 3 + 1, none⟩ = some (.bool yd) := hy 1 (by omega)
      have y2 : wr.cell? ⟨g, u * 3 + 2, none⟩ = some (.int .i64 (ys : Int)) := hy 2 (by omega)
      simp only at hi
      clear hx hy hax hay hyy hr e1 hg''
      obtain ⟨iN, hiN⟩ : ∃ q, q = u + 1 := ⟨_, rfl⟩
      obtain ⟨jN, hjN⟩ : ∃ q, q = u := ⟨_, rfl⟩
      rw [← hiN] at x0 x1 x2
      rw [← hjN] at y0 y1 y2
      have ea : ((u : Int) + 1).toNat = iN := by omega
      have pa : (0 : Int) ≤ (u : Int) + 1 := by omega
      have ba : (u : Int) + 1 < ((n : Int) + 1) := by omega
      have ra : IntKind.i64.wrap ((u : Int) + 1) = (u : Int) + 1 := IntWalk.i64_in _ (by omega)
      have ec : ((u : Int)).toNat = jN := by omega
      have pc : (0 : Int) ≤ (u : Int) := by omega
      have bc : (u : Int) < ((n : Int) + 1) := by omega
      have rc : IntKind.i64.wrap ((u : Int)) = (u : Int) := IntWalk.i64_in _ (by omega)
      have hd0 : decide ((0 : Int) < (u : Int) + 1) = true := decide_eq_true (by omega)
      have hqz : ((u + 1 : Nat) : Int) = (u : Int) + 1 := by omega
      rw [hqz]
      have HSW := Lib.hid hsw
      have HIN := Lib.hid hiN
      have HJN := Lib.hid hjN
      have HLEN := Lib.hid hlen1
      clear hsw hiN hjN hqz hj2 hlen1
      by_cases hlt2 : cmpS xn yn < 0
      · have hless : Op.bytesLess xn.toList yn.toList = true := by rw [less_cmp]; exact decide_eq_true hlt2
        rw [if_pos hlt2] at hi
        have HI2 := Lib.hid hi
        clear hlt2 hi
        go_wp2_with fail
        go_quiet (fail)
        clear ea ec ra rc
        rw [HIN.out] at x0 x1 x2
        rw [HJN.out] at y0 y1 y2
        obtain ⟨w5, hw5⟩ : ∃ w5, w5 = wr.drewN nq := ⟨_, rfl⟩
        rw [← hw5]
        have X0 : w5.cell? ⟨g, (u + 1) * 3, none⟩ = some (.string xn) := by rw [hw5]; exact x0
        have X1 : w5.cell? ⟨g, (u + 1) * 3 + 1, none⟩ = some (.bool xd) := by rw [hw5]; exact x1
        have X2 : w5.cell? ⟨g, (u + 1) * 3 + 2, none⟩ = some (.int .i64 (xs : Int)) := by rw [hw5]; exact x2
        have Y0 : w5.cell? ⟨g, u * 3, none⟩ = some (.string yn) := by rw [hw5]; exact y0
        have Y1 : w5.cell? ⟨g, u * 3 + 1, none⟩ = some (.bool yd) := by rw [hw5]; exact y1
        have Y2 : w5.cell? ⟨g, u * 3 + 2, none⟩ = some (.int .i64 (ys : Int)) := by rw [hw5]; exact y2
        have Z0 : ∀ i, w5.frozen? ⟨g, i, none⟩ = false := fun i => by rw [hw5]; exact hfz i
        have hgl5 : g < w5.heap.size := by rw [hw5]; exact hgl
        have hne5 : g ≠ w5.heap.size := by omega
        have hrow5 : OutE w (putAt S ⟨xn, xd, xs⟩ (u + 1)) w5 (.slice (some ⟨g, 0, none⟩) (n + 1) cap') := by rw [hw5]; exact HROW.out.kept ((Below.refl _ _).drewN _)
        have HROW5 := Lib.hid hrow5
        clear x0 x1 x2 y0 y1 y2 hfz hrow5 hw5 hgl
        go_wp2_with fail
        go_roundg u
        case measure => have := HJ.out; omega
        case rel =>
          refine ⟨u, rfl, by omega, by first | rfl | go_num, HI2.out, ?_⟩
          show OutE _ _ _ _
          have h1 := (HROW5.out.stored HLEN.out (u + 1) (by omega) ⟨yn, yd, ys⟩).stored (by rw [List.length_set]; exact HLEN.out) u (by omega) ⟨xn, xd, xs⟩
          rw [HSW.out] at h1
          exact h1.kept (below_alloc _ _)
      · have hless : Op.bytesLess xn.toList yn.toList = false := by rw [less_cmp]; exact decide_eq_false hlt2
        rw [if_neg hlt2] at hi
        have HI2 := Lib.hid hi
        clear hlt2 hi
        go_wp2_with fail
        go_quiet (fail)
        clear ea ec ra rc
        go_wp2
        go_ret
        exact ⟨_, rfl, by rw [← HI2.out]; exact HROW.out.kept ((Below.refl _ _).drewN _)⟩

end Go.Proofs.YtmmlefbokplnnaaGreatDoor.Disk

namespace Go.Proofs.YtmmlefbokplnnaaGreatDoor.Disk
open Go.RowKit Go Go.Proofs.YtmmlefbokplnnaaGreatDoor.Base Go.Proofs.YtmmlefbokplnnaaGreatDoor.Map

/-- a thing, as a directory's entry -/
def entF (m : M) (d : ByteArray) (x : Thing) : Option Ent :=
  if d.size = 0 then (if sl x.path < x.path.size then none else some ⟨x.path, x.dir, if x.dir then 0 else lenAt m.files x.num⟩)
  else if inside x.path d then some ⟨x.path.extract (d.size + 1) x.path.size, x.dir, if x.dir then 0 else lenAt m.files x.num⟩ else none
theorem ents_eq (m : M) (d : ByteArray) : ents m d = m.things.filterMap (entF m d) := rfl

theorem insL_step (S : List Ent) (o : Option Ent) : insL (S ++ o.toList) = match o with | none => insL S | some e => insE (insL S) e := by
  unfold insL
  cases o with
  | none => simp
  | some e => simp

theorem entF_take (m : M) (d : ByteArray) (l : List Thing) (j : Nat) (hj : j < l.length) : (l.take (j + 1)).filterMap (entF m d) = (l.take j).filterMap (entF m d) ++ (entF m d (l[j]'hj)).toList := by
  rw [List.take_succ_eq_append_getElem hj, List.filterMap_append]
  congr 1

theorem insL_length (l : List Ent) : (insL l).length = l.length := (insL_perm l).length_eq

section
variable {w : World} {R : Nat} {q : RefG} {m : M}

set_option maxRecDepth 100000 in
set_option maxHeartbeats 4000000 in
theorem List_top (h : RefAt w R q m) (hm : Lim m) (hn : NumsIn m) (d : ByteArray) (hd : d.size < 4611686018427387904) (ho : m.off = false) (hz : d.size = 0) :
    Calls Tryz.prog 18 #[.pointer (some ⟨R, 0, none⟩), .string d] w fun r w' => ∃ v, r = .returned (.tuple #[v, .int .i64 0]) ∧ OutE w (insL (ents m d)) w' v := by
  have l1 := refIsName d hd w
  have c5 : w.cell? ⟨R, 5, none⟩ = some (.bool m.off) := h.cell 5
  have c3 : w.cell? ⟨R, 3, none⟩ = some q.fv := h.cell 3
  have h0 := isEmpty_iff d
  obtain ⟨N, hN⟩ : ∃ N, m.things.length = N := ⟨_, rfl⟩
  obtain ⟨ao, cap, hv, hcap, hr⟩ := row_open (f := thingC) (k := 3) (fun _ => rfl) h.things rfl
  have c0 : w.cell? ⟨R, 0, none⟩ = some (.slice ao m.things.length cap) := by rw [← hv]; exact h.cell 0
  rw [hN] at c0
  have hll := hm.things
  rw [hN] at hll
  have HFL := Lib.hid hm.files
  have HPS := Lib.hid hm.paths
  have HH := Lib.hid h
  have HI := Lib.hid hn
  have HN := Lib.hid hN
  have HR := Lib.hid hr
  have HNil := Lib.hid (OutE.nil (Below.refl w.heap.size w))
  rw [ho] at c5
  rw [ents_eq]
  rw [decide_eq_true hz] at h0
  obtain ⟨b, hb⟩ : ∃ b, isName d = b := ⟨_, rfl⟩
  rw [hb] at l1
  have HHz := Lib.hid hz
  clear h hm hn hN hr hv hcap hb ho
  go_enter Tryz.func18, Tryz.ntmps18
  go_wp2_with (go_at_call 59; refine l1.mono ?_; rintro r w2 ⟨rfl, rfl⟩)
  go_loopg [8, 9] N (fun r u i wr => ∃ (j : Nat), Hid (j + r = N) ∧ j ≤ N ∧ i = .int .i64 (j : Int) ∧ Hid (OutE w (insL ((m.things.take j).filterMap (entF m d))) wr u))
  case atStart => exact ⟨0, Nat.zero_add _, Nat.zero_le _, rfl, HNil.out⟩
  case round =>
    obtain ⟨j, hE, hj, rfl, HU⟩ := hrel
    have hbel := HU.out.below
    have d0 : wr.cell? ⟨R, 0, none⟩ = some (.slice ao N cap) := (hbel.cell (by show R < _; exact HH.out.lt)).trans c0
    obtain ⟨ua, uc, rfl⟩ := HU.out.shape
    by_cases hlt : j < N
    · have hjl : j < m.things.length := by rw [HN.out]; exact hlt
      obtain ⟨g, rfl, hg, hc⟩ := HR.out j hjl
      have x0 : wr.cell? ⟨g, j * 3, none⟩ = some (.string (m.things[j]'hjl).path) := (hbel.cell hg).trans (hc 0 (by omega))
      have x1 : wr.cell? ⟨g, j * 3 + 1, none⟩ = some (.bool (m.things[j]'hjl).dir) := (hbel.cell hg).trans (hc 1 (by omega))
      have x2 : wr.cell? ⟨g, j * 3 + 2, none⟩ = some (.int .i64 ((m.things[j]'hjl).num : Int)) := (hbel.cell hg).trans (hc 2 (by omega))
      have htk := entF_take m d m.things j hjl
      have hsz := HPS.out _ (List.getElem_mem hjl)
      have hdn : (m.things[j]'hjl).dir = false → (m.things[j]'hjl).num < m.files.length := HI.out _ (List.getElem_mem hjl)
      have hent : ∀ e, entF m d (m.things[j]'hjl) = some e → insE (insL ((m.things.take j).filterMap (entF m d))) e = insL ((m.things.take (j + 1)).filterMap (entF m d)) := fun e he => by rw [htk, insL_step, he]
      have hnone : entF m d (m.things[j]'hjl) = none → insL ((m.things.take j).filterMap (entF m d)) = insL ((m.things.take (j + 1)).filterMap (entF m d)) := fun he => by rw [htk, insL_step, he]
      have hlu : (insL ((m.things.take j).filterMap (entF m d))).length < 1000000000000 := by
        rw [insL_length]
        refine Nat.lt_of_le_of_lt (List.length_filterMap_le _ _) ?_
        rw [List.length_take]; omega
      have hins := fun (e : Ent) (wo : World) (hb : Below wr.heap.size wr wo) => insert_ref (HU.out.kept hb) hlu e
      have hfc : (m.things[j]'hjl).dir = false → ∃ gf fc, q.fv = .slice (some ⟨gf, 0, none⟩) m.files.length fc ∧ (m.things[j]'hjl).num < m.files.length ∧ m.files.length ≤ fc ∧ gf < w.heap.size ∧ w.cell? ⟨gf, (m.things[j]'hjl).num * 3, none⟩ = some (.string (strN (m.fileAt (m.things[j]'hjl).num).now)) ∧ (strN (m.fileAt (m.things[j]'hjl).num).now).size = lenAt m.files (m.things[j]'hjl).num := fun hd => by
        obtain ⟨gf, fc, h1, h2, h3, h4, _, _⟩ := HH.out.fileCells (hdn hd)
        exact ⟨gf, fc, h1, hdn hd, h2, h3, h4, by rw [strN_size, lenAt_eq]⟩
      obtain ⟨x, hx⟩ : ∃ x, m.things[j]'hjl = x := ⟨_, rfl⟩
      rw [hx] at x0 x1 x2 hsz hent hnone hfc
      obtain ⟨xp, xd, xn⟩ := x
      simp only at x0 x1 x2 hsz hfc
      have HENT := Lib.hid hent
      have HNONE := Lib.hid hnone
      have HINS := Lib.hid hins
      have HFC := Lib.hid hfc
      obtain ⟨LN, hLN⟩ : ∃ LN, (insL ((m.things.take j).filterMap (entF m d))).length = LN := ⟨_, rfl⟩
      rw [hLN] at HINS ⊢
      rw [hLN] at HU
      clear hx htk hdn hent hnone hlu hins hfc hc hLN
      have hba : Below wr.heap.size wr (wr.alloc (.cells #[.string xp, .bool xd, .int .i64 (xn : Int)] 83)) := below_alloc _ _
      have HBA := Lib.hid hba
      have d3 : ∀ v, w.cell? ⟨R, 3, none⟩ = some v → (wr.alloc (.cells #[.string xp, .bool xd, .int .i64 (xn : Int)] 83)).cell? ⟨R, 3, none⟩ = some v := fun v hv => (hba.cell (by have := hbel.size; have := HH.out.lt; show R < _; omega)).trans ((hbel.cell (by show R < _; exact HH.out.lt)).trans hv)
      have D3 := Lib.hid d3
      have hbs := hbel.size
      clear hba d3
      have hsl := fun W => refSlash xp hsz W
      by_cases hk : sl xp < xp.size
      · have he : entF m d ⟨xp, xd, xn⟩ = none := by unfold entF; rw [if_pos hz, if_pos hk]
        have hh := HNONE.out he
        unfold slI at hsl
        rw [if_pos hk] at hsl
        have HSL := Lib.hid hsl
        have HX := Lib.hid hh
        have HK := Lib.hid (HU.out.kept HBA.out)
        generalize sl xp = k at HSL
        clear he hh hsl hk
        go_wp2_with (go_at_call 61; ((with_reducible refine (HSL.out _).mono ?_); rintro r w2 ⟨rfl, rfl⟩))
        go_roundg (N - (j + 1))
        case measure => have := hE.out; omega
        case rel => exact ⟨j + 1, by show _ = _; omega, by omega, by go_num, by show OutE _ _ _ _; rw [← HX.out]; exact HK.out⟩
      · have hent0 : entF m d ⟨xp, xd, xn⟩ = some ⟨xp, xd, if xd then 0 else lenAt m.files xn⟩ := by unfold entF; rw [if_pos hz, if_neg hk]
        have HE0 := Lib.hid hent0
        unfold slI at hsl
        rw [if_neg hk] at hsl
        have HSL := Lib.hid hsl
        clear hent0 hsl hk
        cases xd
        · obtain ⟨gf, fc, hfv, hnl, hfcap, hgf, k0, hks⟩ := HFC.out rfl
          have e3 := D3.out _ (c3.trans (by rw [hfv]))
          have hfl2 := HFL.out
          obtain ⟨FN, hFN⟩ : ∃ FN, m.files.length = FN := ⟨_, rfl⟩
          rw [hFN] at e3 hnl hfcap hfl2
          have kk : (wr.alloc (.cells #[.string xp, .bool false, .int .i64 (xn : Int)] 83)).cell? ⟨gf, xn * 3, none⟩ = _ := (HBA.out.cell (by show gf < _; omega)).trans ((hbel.cell hgf).trans k0)
          generalize strN (m.fileAt xn).now = tx at kk hks
          have hltI : (xn : Int) < (FN : Int) := by omega
          have hh := HENT.out ⟨xp, false, lenAt m.files xn⟩ (by rw [HE0.out]; rfl)
          rw [← hks] at hh
          have HX := Lib.hid hh
          have hcall := fun nd => HINS.out ⟨xp, false, tx.size⟩ _ (HBA.out.drewN nd)
          have HCALL := Lib.hid hcall
          clear hfv k0 hh hks hFN c3 hcall
          go_wp2_with (go_at_call 61; ((with_reducible refine (HSL.out _).mono ?_); rintro r w2 ⟨rfl, rfl⟩))
          go_quiet (fail)
          go_wp2_with (first
            | (go_at_call 53; ((with_reducible refine (HCALL.out _).mono ?_); rintro r w2 ⟨v', rfl, ho⟩)))
          go_roundg (N - (j + 1))
          case measure => have := hE.out; omega
          case rel => exact ⟨j + 1, by show _ = _; omega, by omega, by go_num, by show OutE _ _ _ _; rw [← HX.out]; exact ho⟩
        · have hh := HENT.out ⟨xp, true, 0⟩ (by rw [HE0.out]; rfl)
          have HX := Lib.hid hh
          have hcall : Calls Tryz.prog 53 #[.slice ua LN uc, .agg #[.string xp, .bool true, .int .i64 0]] (wr.alloc (.cells #[.string xp, .bool true, .int .i64 (xn : Int)] 83)) (fun r w' => ∃ v', r = .returned v' ∧ OutE w (insE (insL ((m.things.take j).filterMap (entF m d))) ⟨xp, true, 0⟩) w' v') := HINS.out ⟨xp, true, 0⟩ _ HBA.out
          have HCALL := Lib.hid hcall
          clear hh hcall
          go_wp2_with (first
            | (go_at_call 61; ((with_reducible refine (HSL.out _).mono ?_); rintro r w2 ⟨rfl, rfl⟩))
            | (go_at_call 53; ((with_reducible refine HCALL.out.mono ?_); rintro r w2 ⟨v', rfl, ho⟩)))
          go_roundg (N - (j + 1))
          case measure => have := hE.out; omega
          case rel => exact ⟨j + 1, by show _ = _; omega, by omega, by go_num, by show OutE _ _ _ _; rw [← HX.out]; exact ho⟩
    · obtain rfl : j = N := by omega
      have hall : m.things.take j = m.things := by rw [List.take_of_length_le]; rw [HN.out]; exact Nat.le_refl _
      rw [hall] at HU ⊢
      obtain ⟨LN, hLN⟩ : ∃ LN, (insL (m.things.filterMap (entF m d))).length = LN := ⟨_, rfl⟩
      rw [hLN] at HU ⊢
      clear hlt hE hall hLN
      go_wp2
      go_ret2
      exact ⟨_, rfl, HU.out⟩

set_option maxRecDepth 100000 in
set_option maxHeartbeats 4000000 in
theorem List_dir (h : RefAt w R q m) (hm : Lim m) (hn : NumsIn m) (d : ByteArray) (hd : d.size < 4611686018427387904) (ho : m.off = false) (hz : d.size ≠ 0) (hP : isName d = true) (hx : isAt m.things d = 2) :
    Calls Tryz.prog 18 #[.pointer (some ⟨R, 0, none⟩), .string d] w fun r w' => ∃ v, r = .returned (.tuple #[v, .int .i64 0]) ∧ OutE w (insL (ents m d)) w' v := by
  have l1 := refIsName d hd w
  have c5 : w.cell? ⟨R, 5, none⟩ = some (.bool m.off) := h.cell 5
  have c3 : w.cell? ⟨R, 3, none⟩ = some q.fv := h.cell 3
  have h0 := isEmpty_iff d
  obtain ⟨N, hN⟩ : ∃ N, m.things.length = N := ⟨_, rfl⟩
  obtain ⟨ao, cap, hv, hcap, hr⟩ := row_open (f := thingC) (k := 3) (fun _ => rfl) h.things rfl
  have c0 : w.cell? ⟨R, 0, none⟩ = some (.slice ao m.things.length cap) := by rw [← hv]; exact h.cell 0
  rw [hN] at c0
  have hll := hm.things
  rw [hN] at hll
  have HFL := Lib.hid hm.files
  have HPS := Lib.hid hm.paths
  have HH := Lib.hid h
  have HI := Lib.hid hn
  have HN := Lib.hid hN
  have HR := Lib.hid hr
  have HNil := Lib.hid (OutE.nil (Below.refl w.heap.size w))
  rw [ho] at c5
  rw [ents_eq]
  have l2 := is_ref h (by have := hm.things; omega) d
  rw [hx] at l2
  rw [decide_eq_false hz] at h0
  rw [hP] at l1
  have L2 := Lib.hid l2
  clear h hm hn hN hr hv hcap ho hP hx l2
  go_enter Tryz.func18, Tryz.ntmps18
  go_wp2_with (first
    | (go_at_call 59; refine l1.mono ?_; rintro r w2 ⟨rfl, rfl⟩)
    | (go_at_call 60; ((with_reducible refine L2.out.mono ?_); rintro r w2 ⟨rfl, rfl⟩)))
  go_loopg [8, 9] N (fun r u i wr => ∃ (j : Nat), Hid (j + r = N) ∧ j ≤ N ∧ i = .int .i64 (j : Int) ∧ Hid (OutE w (insL ((m.things.take j).filterMap (entF m d))) wr u))
  case atStart => exact ⟨0, Nat.zero_add _, Nat.zero_le _, rfl, HNil.out⟩
  case round =>
    obtain ⟨j, hE, hj, rfl, HU⟩ := hrel
    have hbel := HU.out.below
    have d0 : wr.cell? ⟨R, 0, none⟩ = some (.slice ao N cap) := (hbel.cell (by show R < _; exact HH.out.lt)).trans c0
    obtain ⟨ua, uc, rfl⟩ := HU.out.shape
    by_cases hlt : j < N
    · have hjl : j < m.things.length := by rw [HN.out]; exact hlt
      obtain ⟨g, rfl, hg, hc⟩ := HR.out j hjl
      have x0 : wr.cell? ⟨g, j * 3, none⟩ = some (.string (m.things[j]'hjl).path) := (hbel.cell hg).trans (hc 0 (by omega))
      have x1 : wr.cell? ⟨g, j * 3 + 1, none⟩ = some (.bool (m.things[j]'hjl).dir) := (hbel.cell hg).trans (hc 1 (by omega))
      have x2 : wr.cell? ⟨g, j * 3 + 2, none⟩ = some (.int .i64 ((m.things[j]'hjl).num : Int)) := (hbel.cell hg).trans (hc 2 (by omega))
      have htk := entF_take m d m.things j hjl
      have hsz := HPS.out _ (List.getElem_mem hjl)
      have hdn : (m.things[j]'hjl).dir = false → (m.things[j]'hjl).num < m.files.length := HI.out _ (List.getElem_mem hjl)
      have hent : ∀ e, entF m d (m.things[j]'hjl) = some e → insE (insL ((m.things.take j).filterMap (entF m d))) e = insL ((m.things.take (j + 1)).filterMap (entF m d)) := fun e he => by rw [htk, insL_step, he]
      have hnone : entF m d (m.things[j]'hjl) = none → insL ((m.things.take j).filterMap (entF m d)) = insL ((m.things.take (j + 1)).filterMap (entF m d)) := fun he => by rw [htk, insL_step, he]
      have hlu : (insL ((m.things.take j).filterMap (entF m d))).length < 1000000000000 := by
        rw [insL_length]
        refine Nat.lt_of_le_of_lt (List.length_filterMap_le _ _) ?_
        rw [List.length_take]; omega
      have hins := fun (e : Ent) (wo : World) (hb : Below wr.heap.size wr wo) => insert_ref (HU.out.kept hb) hlu e
      have hfc : (m.things[j]'hjl).dir = false → ∃ gf fc, q.fv = .slice (some ⟨gf, 0, none⟩) m.files.length fc ∧ (m.things[j]'hjl).num < m.files.length ∧ m.files.length ≤ fc ∧ gf < w.heap.size ∧ w.cell? ⟨gf, (m.things[j]'hjl).num * 3, none⟩ = some (.string (strN (m.fileAt (m.things[j]'hjl).num).now)) ∧ (strN (m.fileAt (m.things[j]'hjl).num).now).size = lenAt m.files (m.things[j]'hjl).num := fun hd => by
        obtain ⟨gf, fc, h1, h2, h3, h4, _, _⟩ := HH.out.fileCells (hdn hd)
        exact ⟨gf, fc, h1, hdn hd, h2, h3, h4, by rw [strN_size, lenAt_eq]⟩
      obtain ⟨x, hx⟩ : ∃ x, m.things[j]'hjl = x := ⟨_, rfl⟩
      rw [hx] at x0 x1 x2 hsz hent hnone hfc
      obtain ⟨xp, xd, xn⟩ := x
      simp only at x0 x1 x2 hsz hfc
      have HENT := Lib.hid hent
      have HNONE := Lib.hid hnone
      have HINS := Lib.hid hins
      have HFC := Lib.hid hfc
      obtain ⟨LN, hLN⟩ : ∃ LN, (insL ((m.things.take j).filterMap (entF m d))).length = LN := ⟨_, rfl⟩
      rw [hLN] at HINS ⊢
      rw [hLN] at HU
      clear hx htk hdn hent hnone hlu hins hfc hc hLN
      have hba : Below wr.heap.size wr (wr.alloc (.cells #[.string xp, .bool xd, .int .i64 (xn : Int)] 83)) := below_alloc _ _
      have HBA := Lib.hid hba
      have d3 : ∀ v, w.cell? ⟨R, 3, none⟩ = some v → (wr.alloc (.cells #[.string xp, .bool xd, .int .i64 (xn : Int)] 83)).cell? ⟨R, 3, none⟩ = some v := fun v hv => (hba.cell (by have := hbel.size; have := HH.out.lt; show R < _; omega)).trans ((hbel.cell (by show R < _; exact HH.out.lt)).trans hv)
      have D3 := Lib.hid d3
      have hbs := hbel.size
      clear hba d3
      have hsl := fun W => refSlash xp hsz W
      obtain ⟨sk, hsk⟩ : ∃ sk, slI xp = sk := ⟨_, rfl⟩
      rw [hsk] at hsl
      have HSL := Lib.hid hsl
      have hin := fun W => inside_ref xp d hsz hd W
      clear hsl hsk
      cases hi : inside xp d
      · have he : entF m d ⟨xp, xd, xn⟩ = none := by unfold entF; rw [if_neg hz, hi]; rfl
        have hh := HNONE.out he
        rw [hi] at hin
        have HIN := Lib.hid hin
        have HX := Lib.hid hh
        have HK := Lib.hid (HU.out.kept HBA.out)
        clear he hh hin hi
        go_wp2_with (first | (go_at_call 61; ((with_reducible refine (HSL.out _).mono ?_); rintro r w2 ⟨rfl, rfl⟩)) | (go_at_call 62; ((with_reducible refine (HIN.out _).mono ?_); rintro r w2 ⟨rfl, rfl⟩)))
        go_roundg (N - (j + 1))
        case measure => have := hE.out; omega
        case rel => exact ⟨j + 1, by show _ = _; omega, by omega, by go_num, by show OutE _ _ _ _; rw [← HX.out]; exact HK.out⟩
      · have hent0 : entF m d ⟨xp, xd, xn⟩ = some ⟨xp.extract (d.size + 1) xp.size, xd, if xd then 0 else lenAt m.files xn⟩ := by unfold entF; rw [if_neg hz, if_pos hi]
        have HE0 := Lib.hid hent0
        have hle : d.size + 1 ≤ xp.size := by unfold inside at hi; simp at hi; omega
        have hw1 : IntKind.i64.wrap ((d.size : Int) + 1) = ((d.size + 1 : Nat) : Int) := by rw [IntWalk.i64_in _ (by omega)]; omega
        rw [hi] at hin
        have HIN := Lib.hid hin
        clear hent0 hin hi
        cases xd
        · obtain ⟨gf, fc, hfv, hnl, hfcap, hgf, k0, hks⟩ := HFC.out rfl
          have e3 := D3.out _ (c3.trans (by rw [hfv]))
          have hfl2 := HFL.out
          obtain ⟨FN, hFN⟩ : ∃ FN, m.files.length = FN := ⟨_, rfl⟩
          rw [hFN] at e3 hnl hfcap hfl2
          have kk : (wr.alloc (.cells #[.string xp, .bool false, .int .i64 (xn : Int)] 83)).cell? ⟨gf, xn * 3, none⟩ = _ := (HBA.out.cell (by show gf < _; omega)).trans ((hbel.cell hgf).trans k0)
          generalize strN (m.fileAt xn).now = tx at kk hks
          have hltI : (xn : Int) < (FN : Int) := by omega
          have hh := HENT.out ⟨xp.extract (d.size + 1) xp.size, false, lenAt m.files xn⟩ (by rw [HE0.out]; rfl)
          rw [← hks] at hh
          have HX := Lib.hid hh
          have hcall := fun nd => HINS.out ⟨xp.extract (d.size + 1) xp.size, false, tx.size⟩ _ (HBA.out.drewN nd)
          have HCALL := Lib.hid hcall
          clear hfv k0 hh hks hFN c3 hcall
          go_wp2_with (first | (go_at_call 61; ((with_reducible refine (HSL.out _).mono ?_); rintro r w2 ⟨rfl, rfl⟩)) | (go_at_call 62; ((with_reducible refine (HIN.out _).mono ?_); rintro r w2 ⟨rfl, rfl⟩)))
          go_quiet (fail)
          go_wp2_with (first
            | (go_at_call 53; ((with_reducible refine (HCALL.out _).mono ?_); rintro r w2 ⟨v', rfl, ho⟩)))
          go_roundg (N - (j + 1))
          case measure => have := hE.out; omega
          case rel => exact ⟨j + 1, by show _ = _; omega, by omega, by go_num, by show OutE _ _ _ _; rw [← HX.out]; exact ho⟩
        · have hh := HENT.out ⟨xp.extract (d.size + 1) xp.size, true, 0⟩ (by rw [HE0.out]; rfl)
          have HX := Lib.hid hh
          have hcall : Calls Tryz.prog 53 #[.slice ua LN uc, .agg #[.string (xp.extract (d.size + 1) xp.size), .bool true, .int .i64 0]] (wr.alloc (.cells #[.string xp, .bool true, .int .i64 (xn : Int)] 83)) (fun r w' => ∃ v', r = .returned v' ∧ OutE w (insE (insL ((m.things.take j).filterMap (entF m d))) ⟨xp.extract (d.size + 1) xp.size, true, 0⟩) w' v') := HINS.out ⟨xp.extract (d.size + 1) xp.size, true, 0⟩ _ HBA.out
          have HCALL := Lib.hid hcall
          clear hh hcall
          go_wp2_with (first
            | (first | (go_at_call 61; ((with_reducible refine (HSL.out _).mono ?_); rintro r w2 ⟨rfl, rfl⟩)) | (go_at_call 62; ((with_reducible refine (HIN.out _).mono ?_); rintro r w2 ⟨rfl, rfl⟩)))
            | (go_at_call 53; ((with_reducible refine HCALL.out.mono ?_); rintro r w2 ⟨v', rfl, ho⟩)))
          go_roundg (N - (j + 1))
          case measure => have := hE.out; omega
          case rel => exact ⟨j + 1, by show _ = _; omega, by omega, by go_num, by show OutE _ _ _ _; rw [← HX.out]; exact ho⟩
    · obtain rfl : j = N := by omega
      have hall : m.things.take j = m.things := by rw [List.take_of_length_le]; rw [HN.out]; exact Nat.le_refl _
      rw [hall] at HU ⊢
      obtain ⟨LN, hLN⟩ : ∃ LN, (insL (m.things.filterMap (entF m d))).length = LN := ⟨_, rfl⟩
      rw [hLN] at HU ⊢
      clear hlt hE hall hLN
      go_wp2
      go_ret2
      exact ⟨_, rfl, HU.out⟩

set_option maxRecDepth 100000 in
set_option maxHeartbeats 4000000 in
theorem List_ref (h : RefAt w R q m) (hm : Lim m) (hn : NumsIn m) (d : ByteArray) (hd : d.size < 4611686018427387904) :
    Calls Tryz.prog 18 #[.pointer (some ⟨R, 0, none⟩), .string d] w fun r w' => ∃ v, r = .returned (.tuple #[v, .int .i64 (m.listCode d : Int)]) ∧ OutE w (if m.listCode d = 0 then insL (ents m d) else []) w' v := by
  have l1 := refIsName d hd w
  have l2 := is_ref h (by have := hm.things; omega) d
  have c5 : w.cell? ⟨R, 5, none⟩ = some (.bool m.off) := h.cell 5
  have h0 := isEmpty_iff d
  obtain ⟨N, hN⟩ : ∃ N, m.things.length = N := ⟨_, rfl⟩
  have hll := hm.things
  rw [hN] at hll
  have hfl := hm.files
  have htx := hm.texts
  have hps := hm.paths
  have HTX := Lib.hid htx
  have HPS := Lib.hid hps
  have HFL := Lib.hid hfl
  have HH := Lib.hid h
  have HI := Lib.hid hn
  have HN := Lib.hid hN
  have L2 := Lib.hid l2
  have HNil := Lib.hid (OutE.nil (Below.refl w.heap.size w))
  unfold M.listCode
  clear hN htx hps hfl l2
  cases ho : m.off
  · rw [ho] at c5
    simp only [Bool.false_eq_true, if_false]
    have loop : ∀ (d0 : d.size = 0 ∨ (d.size ≠ 0 ∧ isName d = true ∧ isAt m.things d = 2)), Calls Tryz.prog 18 #[.pointer (some ⟨R, 0, none⟩), .string d] w fun r w' => ∃ v, r = .returned (.tuple #[v, .int .i64 0]) ∧ OutE w (insL (ents m d)) w' v := fun d0 => by
      rcases d0 with h1 | ⟨h1, h2, h3⟩
      · exact List_top h hm hn d hd ho h1
      · exact List_dir h hm hn d hd ho h1 h2 h3
    by_cases hz : d.size = 0
    · rw [if_pos hz]
      simp only [if_true]
      exact loop (.inl hz)
    · rw [if_neg hz]
      rw [decide_eq_false hz] at h0
      cases hP : isName d
      · rw [hP] at l1
        simp only [if_true]
        rw [if_neg (by decide)]
        clear loop h hm hn ho hP
        go_enter Tryz.func18, Tryz.ntmps18
        go_wp2_with (go_at_call 59; refine l1.mono ?_; rintro r w2 ⟨rfl, rfl⟩)
        go_ret2
        exact ⟨_, rfl, HNil.out⟩
      · simp only [Bool.true_eq_false, if_false]
        rcases isAt_lt (l := m.things) d with hx | hx | hx
        · rw [if_neg (by omega), if_pos hx, if_neg (by decide)]
          rw [hP] at l1
          rw [hx] at L2
          clear loop h hm hn ho hP hx
          go_enter Tryz.func18, Tryz.ntmps18
          go_wp2_with (first
            | (go_at_call 59; refine l1.mono ?_; rintro r w2 ⟨rfl, rfl⟩)
            | (go_at_call 60; ((with_reducible refine L2.out.mono ?_); rintro r w2 ⟨rfl, rfl⟩)))
          go_ret2
          exact ⟨_, rfl, HNil.out⟩
        · rw [if_pos hx, if_neg (by decide)]
          rw [hP] at l1
          rw [hx] at L2
          clear loop h hm hn ho hP hx
          go_enter Tryz.func18, Tryz.ntmps18
          go_wp2_with (first
            | (go_at_call 59; refine l1.mono ?_; rintro r w2 ⟨rfl, rfl⟩)
            | (go_at_call 60; ((with_reducible refine L2.out.mono ?_); rintro r w2 ⟨rfl, rfl⟩)))
          go_ret2
          exact ⟨_, rfl, HNil.out⟩
        · rw [if_neg (by omega), if_neg (by omega), if_pos rfl]
          exact loop (.inr ⟨hz, hP, hx⟩)
  · rw [ho] at c5
    simp only [if_true]
    rw [if_neg (by decide)]
    clear ho h hm hn
    go_enter Tryz.func18, Tryz.ntmps18
    go_wp2_with (go_at_call 59; refine l1.mono ?_; rintro r w2 ⟨rfl, rfl⟩)
    go_ret2
    exact ⟨_, rfl, HNil.out⟩

end
end Go.Proofs.YtmmlefbokplnnaaGreatDoor.Disk

namespace Go.Proofs.YtmmlefbokplnnaaGreatDoor.Disk
open Go.RowKit Go Go.Proofs.YtmmlefbokplnnaaGreatDoor.Base Go.Proofs.YtmmlefbokplnnaaGreatDoor.Map

theorem bytes_info : (Tryz.prog.info? 101).map (fun i => (i.zero, i.size, i.bytes)) = some (some (.agg #[.string ⟨#[]⟩, .string ⟨#[]⟩, .slice none 0 0]), 3, 56) := by kernel_rfl

section
variable {w w' : World} {R : Nat} {q : RefG} {m : M}

theorem RefParts.pushFile {v : Value} (h : RefParts w q m) (hg : w.grownBy w' q.fv.ownBlock) (hr : w'.ownsRow 0 101 3 v (m.files.length + 1) ((m.files.zip q.cs).flatMap fbC ++ [.string ⟨#[]⟩, .string ⟨#[]⟩, .slice none 0 0])) :
    RefParts w' { q with fv := v, cs := q.cs ++ [.slice none 0 0] } { m with files := m.files ++ [⟨[], [], []⟩] } := by
  have ht : Turn (fun k => q.fv.ownBlock = some k) w w' := Turn.of_grown hg fun k hk => hk
  have kk : ∀ k, q.fv.ownBlock = some k → isK w k 101 := fun k hk => row_kind h.files hk
  refine ⟨row_turn h.things ht fun k hk hS => (row_kind h.things hk).ne (kk k hS) (by decide) rfl, row_turn h.safe ht fun k hk hS => (row_kind h.safe hk).ne (kk k hS) (by decide) rfl,
    row_turn h.steps ht fun k hk hS => (row_kind h.steps hk).ne (kk k hS) (by decide) rfl, ?_, by simp [h.len], fun i i1 i2 => ?_, fun i j k i1 i2 => ?_⟩
  · simp only [List.length_append, List.length_cons, List.length_nil, Nat.zero_add]
    rw [List.zip_append h.len.symm, List.flatMap_append]
    exact hr
  · simp only [List.length_append, List.length_cons, List.length_nil] at i1 i2
    by_cases hi : i < m.files.length
    · have hi2 : i < q.cs.length := by rw [h.len]; exact hi
      have e1 : (q.cs ++ [Value.slice none 0 0])[i]'(by simp; omega) = q.cs[i]'hi2 := List.getElem_append_left hi2
      have e2 : (m.files ++ [(⟨[], [], []⟩ : FB)])[i]'(by simp; omega) = m.files[i]'hi := List.getElem_append_left hi
      simp only [e1, e2]
      exact row_turn (h.changes i hi hi2) ht fun k hk hS => (row_kind (h.changes i hi hi2) hk).ne (kk k hS) (by decide) rfl
    · have hi3 : i = m.files.length := by omega
      subst hi3
      have e1 : (q.cs ++ [Value.slice none 0 0])[m.files.length]'(by simp [h.len]) = Value.slice none 0 0 := by rw [List.getElem_append_right (by rw [h.len]; exact Nat.le_refl _)]; simp [h.len]
      have e2 : (m.files ++ [(⟨[], [], []⟩ : FB)])[m.files.length]'(by simp) = ⟨[], [], []⟩ := by rw [List.getElem_append_right (Nat.le_refl _)]; simp
      simp only [e1, e2]
      exact World.ownsRow_nil _ _ _ _
  · simp only [List.length_append, List.length_cons, List.length_nil] at i1 i2
    intro h1 h2
    have in1 : ∀ x (hx : x < q.cs.length + 1), ((q.cs ++ [Value.slice none 0 0])[x]'(by simp; omega)).ownBlock = some k → ∃ hx2 : x < q.cs.length, (q.cs[x]'hx2).ownBlock = some k := fun x hx hk => by
      by_cases hx2 : x < q.cs.length
      · rw [List.getElem_append_left hx2] at hk; exact ⟨hx2, hk⟩
      · rw [List.getElem_append_right (by omega)] at hk
        simp at hk
        cases hk
    obtain ⟨a1, b1⟩ := in1 i i1 h1
    obtain ⟨a2, b2⟩ := in1 j i2 h2
    exact h.apart i j k a1 a2 b1 b2

/-- behind the names step the file's bytes are appended -/
theorem create_fin {w2 : World} {q1 : RefG} {m1 : M} (hd : RefDone w R q w2 q1 m1) (hfv : q1.fv = q.fv) (hcs : q1.cs = q.cs) (hf : m1.files = m.files) (hl : m.files.length < 1099511627776) :
    ∃ fa fc a4 c4 w4, w2.cell? ⟨R, 3, none⟩ = some (.slice fa m.files.length fc) ∧
      (Builtin.append_ #[41, 41] 41 #[.slice fa m.files.length fc, .slice (some ⟨w2.heap.size, 0, none⟩) 1 1]).run Tryz.prog (w2.alloc (.cells #[.string ⟨#[]⟩, .string ⟨#[]⟩, .slice none 0 0] 101)) = .ok (.slice a4 (m.files.length + 1) c4) w4 ∧
      (∃ u, w4.cell? ⟨R, 3, none⟩ = some u) ∧ w4.frozen? ⟨R, 3, none⟩ = false ∧
      RefDone w R q (w4.setCell ⟨R, 3, none⟩ (.slice a4 (m.files.length + 1) c4)) { q1 with fv := .slice a4 (m.files.length + 1) c4, cs := q.cs ++ [.slice none 0 0] } { m1 with files := m.files ++ [⟨[], [], []⟩] } := by
  have hx : RefAt (w2.alloc (.cells #[.string ⟨#[]⟩, .string ⟨#[]⟩, .slice none 0 0] 101)) R q1 m1 := hd.at'.below (below_alloc _ _)
  have hfs := hx.files
  rw [hf] at hfs
  obtain ⟨fa, fc, hv, _⟩ := row_open (f := fbC) (k := 3) (n := m.files.length) (fun _ => rfl) hfs (by rw [List.length_zip, hcs, ← hcs, hx.len, hf, Nat.min_self])
  obtain ⟨v', w4, hrun, hrow, hg, hloc⟩ := row_push Tryz.underlying41 bytes_info rfl (by decide) (by decide) _ q1.fv m.files.length _ hfs [.string ⟨#[]⟩, .string ⟨#[]⟩, .slice none 0 0] rfl (by intro u hu; simp at hu; rcases hu with rfl | rfl <;> rfl) w2.heap.size (heap_alloc_new w2 _) hl
  have hp := hx.parts.pushFile (v := v') hg (by rw [hf]; exact hrow)
  have hlen4 : ∃ a4 c4, v' = .slice a4 (m.files.length + 1) c4 := by
    have h5 := hp.files
    simp only [hf, hcs, List.length_append, List.length_cons, List.length_nil, Nat.zero_add] at h5
    obtain ⟨a4, c4, h6, _⟩ := row_open (f := fbC) (k := 3) (n := m.files.length + 1) (fun _ => rfl) h5 (by
      have := hx.len
      rw [hcs, hf] at this
      simp [this])
    exact ⟨a4, c4, h6⟩
  obtain ⟨a4, c4, rfl⟩ := hlen4
  have hb4 : w4.heap[R]? = some (.cells (refCells q1 m1) 43) := by
    rw [hg.block R hx.lt (fun e => (row_kind hfs e.symm).ne hx.kind (by decide) rfl)]
    exact hx.block
  have hfin := RefAt.put hb4 hp 3 (.slice a4 (m.files.length + 1) c4) rfl
  rw [hf, hcs] at hfin
  rw [hv] at hrun
  refine ⟨fa, fc, a4, c4, w4, by rw [← hv]; exact hd.at'.cell 3, hrun, ⟨q1.fv, by rw [cell_of_row _ _ 3 _ _ _ hb4]; rfl⟩, by simp only [World.frozen?, hb4]; rfl, hfin, ?_, fun k hk => ?_⟩
  · have t1 : Turn (q.own R) w w4 := (hd.turn.alloc _).trans (Turn.of_grown (S := q.own R) hg (fun k hk => by rw [hfv] at hk; exact .inr (.inr (.inl hk)))) (fun _ _ hh => hh)
    exact t1.set _ _ (fun _ => .inl rfl)
  · rcases hk with hk | hk | hk | hk
    · exact hd.own k (.inl hk)
    · exact hd.own k (.inr (.inl hk))
    · simp only at hk
      rcases hloc with hl | hl
      · rw [hl] at hk; exact hd.own k (.inr (.inr (.inl hk)))
      · rw [hl] at hk; injection hk with hk
        have := hd.turn.size
        simp at hk
        exact .inr (by omega)
    · obtain ⟨v, hv2, hk⟩ := hk
      simp only at hv2
      rcases List.mem_append.1 hv2 with h1 | h1
      · exact .inl (.inr (.inr (.inr ⟨v, h1, hk⟩)))
      · simp at h1; subst h1; cases hk

end
end Go.Proofs.YtmmlefbokplnnaaGreatDoor.Disk

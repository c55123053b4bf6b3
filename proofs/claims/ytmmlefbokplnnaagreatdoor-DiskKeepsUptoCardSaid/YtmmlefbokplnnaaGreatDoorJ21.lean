/-
  The texts DRestart2, DWakeP, DWakeR, DWake, joined. Own text.
-/
import Derived.Test.YtmmlefbokplnnaaGreatDoorJ20
import Derived.Test.YtmmlefbokplnnaaGreatDoorJ14
set_option linter.unusedVariables false
set_option linter.unusedSimpArgs false
namespace Go.Proofs.YtmmlefbokplnnaaGreatDoor.Disk
open Go.RowKit Go Go.Proofs.YtmmlefbokplnnaaGreatDoor.Base Go.Proofs.YtmmlefbokplnnaaGreatDoor.Map

def inI (x : Int) : Prop := -9223372036854775808 ≤ x ∧ x ≤ 9223372036854775807

theorem likeDs.paths {a b : List DirG} (h : likeDs a b) : allPaths a = allPaths b := by
  unfold allPaths likeDs at *
  have e : ∀ l : List DirG, l.flatMap pathsOf = (l.map fun x => (x.name, x.files)).flatMap fun q => q.2.map fun p => lst (pathOf q.1 p.1) := by
    intro l
    rw [List.flatMap_map]
    rfl
  rw [e a, e b, h]

theorem likeDs.mem {a b : List DirG} (h : likeDs a b) {x : DirG} (hx : x ∈ a) : ∃ y ∈ b, y.name = x.name ∧ y.files = x.files := by
  have : (x.name, x.files) ∈ b.map fun x => (x.name, x.files) := by rw [← h]; exact List.mem_map_of_mem hx
  obtain ⟨y, hy, e⟩ := List.mem_map.1 this
  injection e with e1 e2
  exact ⟨y, hy, e1, e2⟩

theorem Plain.like {g g' : TreeG} {n : Nat} {dx : List DirG} (h : Plain g n) (hp : dx.Perm g.ds) (hl : likeDs g'.ds dx) : Plain g' n := by
  refine ⟨fun x hx => ?_, fun x hx p hm => ?_⟩
  · obtain ⟨y, hy, e1, _⟩ := hl.mem hx
    rw [← e1]; exact h.dir y (hp.mem_iff.1 hy)
  · obtain ⟨y, hy, _, e2⟩ := hl.mem hx
    rw [← e2] at hm; exact h.file y (hp.mem_iff.1 hy) p hm

theorem keptN_good (g : TreeG) (data : List Int) (zeros : Bool) (ps : List (List UInt8)) (pfs : List PF) (B C : Nat) (h : ∀ p ∈ pfs, p.Good B ∧ unitsOf p.steps < C ∧ p.steps.length < C) (hC : 0 < C) (j : Nat) :
    (∀ p ∈ (keptN g data zeros ps pfs j).1, p.Good B ∧ unitsOf p.steps < C ∧ p.steps.length < C) ∧ (keptN g data zeros ps pfs j).2 ≤ j * B := by
  induction j with
  | zero => exact ⟨h, Nat.zero_le _⟩
  | succ j ih =>
    obtain ⟨i1, i2⟩ := ih
    unfold keptN
    split
    · exact ⟨i1, by rw [Nat.succ_mul]; simp only; omega⟩
    · rename_i k hk
      simp only
      have key : ∀ p ∈ (keptN g data zeros ps pfs j).1.modify k (pfKeep data zeros j), p.Good B ∧ unitsOf p.steps < C ∧ p.steps.length < C := by
        intro p hp
        by_cases hkl : k < (keptN g data zeros ps pfs j).1.length
        · rw [modify_set _ _ _ hkl] at hp
          rcases List.mem_or_eq_of_mem_set hp with hp | hp
          · exact i1 p hp
          · subst hp
            have := i1 _ (List.getElem_mem hkl)
            exact ⟨keep_good this.1 _ (share_le _ _) _, by simpa [pfKeep, PF.keep, unitsOf] using hC, by simpa [pfKeep, PF.keep] using hC⟩
        · rw [List.modify_eq_self (by omega)] at hp
          exact i1 p hp
      refine ⟨key, ?_⟩
      have : lenP ((keptN g data zeros ps pfs j).1.modify k (pfKeep data zeros j)) k ≤ B := by
        unfold lenP
        cases hh : ((keptN g data zeros ps pfs j).1.modify k (pfKeep data zeros j))[k]? with
        | none => simp
        | some p => simp; exact (key p (List.mem_of_getElem? hh)).1.len
      rw [Nat.succ_mul]
      omega

/-- the disk when its names have come back -/
def DiskG.woken (G : DiskG) (gd' : TreeG) (F : Nat) (dl : List DirG) : DiskG := { G with gc := ⟨some F, dl⟩, gd := gd', steps := [], nv := .slice none 0 0, used := 0 }

set_option maxRecDepth 100000 in
set_option maxHeartbeats 4000000 in
theorem restart_any {w : World} {D : Nat} {G : DiskG} {E : Nat → Addr} (h : DiskAt w D G) (he : Env w E) (hown : ∀ k, k < 8 → ¬ G.own D k) (hlen : G.steps.length < 1099511627776)
    (hfit : ∀ j (hj : j < G.steps.length) gm, AppAll (G.nsteps.take j) G.gd gm → Fits (G.steps[j]'hj).s gm)
    (names : Int) (hnames : inI names) (data : List Int) (vd : Value) (hdata : w.ownsRow 0 3 1 vd data.length (ints data)) (hdl : data.length < 1099511627776) (hdi : ∀ x ∈ data, inI x) (zeros : Bool)
    (B : Nat) (hB : B < 1099511627776) (hgood : ∀ p ∈ G.pfs, p.Good B ∧ unitsOf p.steps < 1099511627776 ∧ p.steps.length < 1099511627776)
    (hplain : ∀ gm, AppAll (G.nsteps.take (share names G.steps.length)) G.gd gm → Plain gm G.pfs.length ∧ (allPaths gm.ds).length ≤ 1048576) :
    Calls Tryz.prog 13 #[.pointer (some ⟨D, 0, none⟩), .int .i64 names, vd, .bool zeros] w fun r w' =>
      r = .returned (.tuple #[]) ∧ ∃ gd' F dl dx G', AppAll (G.nsteps.take (share names G.steps.length)) G.gd gd' ∧ dx.Perm gd'.ds ∧ likeDs dl dx ∧
        G' = { G with gc := ⟨some F, dl⟩, gd := gd', pfs := (keptN ⟨some F, dl⟩ data zeros (sorted (allPaths dl)) G.pfs (sorted (allPaths dl)).length).1, used := (keptN ⟨some F, dl⟩ data zeros (sorted (allPaths dl)) G.pfs (sorted (allPaths dl)).length).2, bvs := G'.bvs, svs := G'.svs, steps := [], nv := .slice none 0 0, off := false, crash := 0 } ∧
        DiskAt w' D G' ∧ Turn (G.own D) w w' ∧ (∀ k, G'.own D k → G.own D k ∨ w.heap.size ≤ k) := by
  have hmd := makeDurable_any h he hown (share names G.steps.length) (share_le _ _) hlen hfit
  have hrem := fun W => remainder_any names (G.steps.length + 1) hnames (by omega) (by omega) W
  simp only [Nat.add_sub_cancel] at hrem
  obtain ⟨ad, cap, hnv, _⟩ := row_len h.parts.row
  have c2 : w.cell? ⟨D, 2, none⟩ = some (.slice ad G.steps.length cap) := by rw [h.cell 2, ← hnv]; rfl
  obtain ⟨N, hN⟩ : ∃ N, G.steps.length = N := ⟨_, rfl⟩
  rw [hN] at c2 hrem hmd hlen hplain ⊢
  have HN := Lib.hid hN
  have HMD := Lib.hid hmd
  have HD := Lib.hid h
  have HE := Lib.hid he
  have HO := Lib.hid hown
  have HF := Lib.hid hfit
  have HG := Lib.hid hgood
  have HP := Lib.hid hplain
  have HDI := Lib.hid hdi
  have HDA := Lib.hid hdata
  clear h he hown hfit hmd hnv hN hnames hgood hplain hdi hdata
  go_enter Tryz.func13, Tryz.ntmps13
  go_wp2_with (first
    | (go_at_call 45; refine (hrem _).mono ?_; rintro r w2 ⟨rfl, rfl⟩)
    | (go_at_call 44; ((with_reducible refine HMD.out.mono ?_); rintro r w4 ⟨rfl, gd', hap, hd4, ht4, hb4⟩; have q2 : w4.cell? ⟨D, 2, none⟩ = some G.nv := hd4.cell 2; have f2 := hd4.fro 2; have HD5 := Lib.hid hd4.noNames; have HCC := Lib.hid (clone_any (ptr := G.ptr) (g := gd') HD5.out.parts.dur D 1 (HD5.out.cell 1)); have HT4 := Lib.hid ht4; have HB4 := Lib.hid hb4; clear hd4 ht4 hb4))
    | (go_at_call 46; ((with_reducible refine HCC.out.mono ?_); rintro r w6 ⟨F, dl, dx, rfl, hcl, hperm, hlike⟩; have hd6 := HD5.out.below hcl.below; have q0 : w6.cell? ⟨D, 0, none⟩ = some (topV G.gc) := hd6.cell 0; have q4 : w6.cell? ⟨D, 4, none⟩ = some (.int .i64 (G.used : Int)) := hd6.cell 4; have f0 := hd6.fro 0; have f4 := hd6.fro 4; have HD7 := Lib.hid (HD5.out.recloned hcl); have HCL := Lib.hid hcl; have HPE := Lib.hid hperm; have HLI := Lib.hid hlike; clear hd6 hcl hperm hlike)))
  obtain ⟨W7, hW7⟩ : ∃ W7, W7 = (w6.setCell ⟨D, 0, none⟩ (.map (some F))).setCell ⟨D, 4, none⟩ (.int .i64 0) := ⟨_, rfl⟩
  rw [← hW7]
  have hd8 : DiskAt W7 D (G.woken gd' F dl) := by
    rw [hW7]
    exact HD7.out.set 4 (.int .i64 0) _ rfl fun hp => ⟨hp.cur, hp.dur, hp.trees, hp.row, hp.steps, hp.files, hp.inj, hp.bytes, hp.rows⟩
  have ht8 : Turn (fun k => k = D ∨ k ∈ G.gd.blocks) w W7 := by
    rw [hW7]
    refine ((HT4.out.set ⟨D, 2, none⟩ (.slice none 0 0) (fun _ => .inl rfl)).trans (S' := fun k => k = D) ?_ (fun k _ hh => .inl hh))
    exact (((Turn.of_below HCL.out.below : Turn (fun k => k = D) _ _).set _ _ (fun _ => rfl)).set _ _ (fun _ => rfl))
  have hpl := HP.out gd' hap
  have hpl2 : Plain ⟨some F, dl⟩ G.pfs.length := hpl.1.like HPE.out HLI.out
  have hcnt : (allPaths dl).length ≤ 1048576 := by
    rw [HLI.out.paths]
    exact Nat.le_trans (Nat.le_of_eq (List.Perm.flatMap_right _ HPE.out).length_eq) hpl.2
  have hpaths := paths_any (g := ⟨some F, dl⟩) hd8.parts.cur D 0 (hd8.cell 0) (fun x hx => ⟨by have := (hpl2.dir x hx).2; omega, fun p hm => by have := (hpl2.file x hx p hm).2.1; omega⟩) (by simp only; omega)
  have hown8 : ∀ k, (G.woken gd' F dl).own D k → G.own D k ∨ w.heap.size ≤ k := by
    have s4 := HT4.out.size
    intro k hk
    rcases hk with hk | hk | hk | hk | ⟨x, hx, _⟩ | hk
    · exact .inl (.inl hk)
    · unfold TreeG.blocks at hk
      simp only [DiskG.woken, Option.toList_some, List.cons_append, List.nil_append, List.mem_cons, List.mem_map] at hk
      have hb : w4.heap.size ≤ F := by have := HCL.out.base; simpa using this
      rcases hk with rfl | ⟨x, hx, rfl⟩
      · exact .inr (by omega)
      · have hx2 : w4.heap.size ≤ x.blk := by have := (HCL.out.new x hx).1; simpa using this
        exact .inr (by omega)
    · rcases HB4.out k hk with h1 | h1
      · exact .inl (.inr (.inr (.inl h1)))
      · exact .inr h1
    · cases hk
    · cases hx
    · exact .inl (.inr (.inr (.inr (.inr (.inr hk)))))
  have hda8 : W7.ownsRow 0 3 1 vd data.length (ints data) := row_turn HDA.out ht8 fun k hk hh => by
    rcases hh with hh | hh
    · subst hh; exact (row_kind HDA.out hk).ne HD.out.kind (by decide) rfl
    · exact (row_kind HDA.out hk).noMap (HD.out.parts.dur.maps k hh)
  have HPA := Lib.hid hpaths
  have HD8 := Lib.hid hd8
  have HT8 := Lib.hid ht8
  have HPL := Lib.hid hpl2
  have HOW := Lib.hid hown8
  have HDA8 := Lib.hid hda8
  have HAP := Lib.hid hap
  have HCN := Lib.hid hcnt
  clear hpaths hd8 ht8 hpl hpl2 hown8 hda8 hcnt hap hW7
  with_reducible refine HPA.out.mono ?_
  rintro r W8 ⟨vps, rfl, hrow⟩
  obtain ⟨G2, hG2⟩ : ∃ G2, G.woken gd' F dl = G2 := ⟨_, rfl⟩
  obtain ⟨ps, hps⟩ : ∃ ps, sorted (allPaths dl) = ps := ⟨_, rfl⟩
  obtain ⟨M, hM⟩ : ∃ M, ps.length = M := ⟨_, rfl⟩
  simp only [hps] at hrow
  have hkp : Keeping W8 D G2 data zeros ps vps vd W8 0 G2 := by
    rw [← hG2]
    exact ⟨HD8.out.below hrow.below, rfl, hrow.row, row_turn HDA8.out (Turn.of_below (S := fun _ => False) hrow.below) (fun _ _ h => h), Turn.refl _ _, fun k hk => .inl hk⟩
  obtain ⟨va, vcp, rfl, _⟩ := row_len hrow.row
  rw [hM] at hkp
  obtain ⟨vda, vdc, rfl, _⟩ := row_len HDA.out
  rw [hM]
  have HG2 := Lib.hid hG2
  have HPS := Lib.hid hps
  have HM := Lib.hid hM
  have HRO := Lib.hid hrow
  have HKP := Lib.hid hkp
  clear hG2 hps hM hrow hkp
  have htw : ∀ wr j G', Keeping W8 D G2 data zeros ps (.slice va M vcp) (.slice vda data.length vdc) wr j G' → Turn (G.own D) w wr ∧ (∀ k, G'.own D k → G.own D k ∨ w.heap.size ≤ k) ∧ G'.gc = ⟨some F, dl⟩ ∧ G'.pfs.length = G.pfs.length ∧ (∀ p ∈ G'.pfs, p.Good B ∧ unitsOf p.steps < 1099511627776 ∧ p.steps.length < 1099511627776) := by
    intro wr j G' hk
    have s1 := HT8.out.size
    have s2 := HRO.out.below.size
    have hg := (keptN_good G2.gc data zeros ps G2.pfs B 1099511627776 (by rw [← HG2.out]; exact HG.out) (by omega) j).1
    refine ⟨?_, ?_, ?_, ?_, ?_⟩
    · refine ((HT8.out.mono (fun k _ hh => ?_) : Turn (G.own D) w W7).trans (Turn.of_below (S := fun _ => False) HRO.out.below) (fun _ _ hh => hh.elim)).trans hk.turn ?_
      · rcases hh with hh | hh
        · exact .inl hh
        · exact .inr (.inr (.inl hh))
      · intro k hkl hh
        rw [← HG2.out] at hh
        rcases HOW.out k hh with h1 | h1
        · exact h1
        · omega
    · intro k hh
      rcases hk.own k hh with h1 | h1
      · rw [← HG2.out] at h1; exact HOW.out k h1
      · exact .inr (by omega)
    · rw [hk.same, ← HG2.out]; rfl
    · rw [hk.len, ← HG2.out]; rfl
    · rw [hk.same]; exact hg
  have HTW := Lib.hid htw
  clear htw
  go_wp2_with fail
  go_loopg [42] M (fun r i wr => ∃ (j : Nat) (G' : DiskG), Hid (j + r = M) ∧ j ≤ M ∧ i = .int .i64 (j : Int) ∧ Hid (Keeping W8 D G2 data zeros ps (.slice va M vcp) (.slice vda data.length vdc) wr j G'))
  case atStart => exact ⟨0, G2, Nat.zero_add _, Nat.zero_le _, rfl, HKP.out⟩
  case round =>
    obtain ⟨j, G', hE, hj, rfl, HK⟩ := hrel
    by_cases hlt : j < M
    · have hjl : j < ps.length := by rw [HM.out]; exact hlt
      obtain ⟨s, hs⟩ : ∃ s, ps[j]'hjl = s := ⟨_, rfl⟩
      have hgd : ps.getD j [] = s := by rw [List.getD, List.getElem?_eq_getElem hjl, hs]; rfl
      have hmem : s ∈ allPaths dl := by
        have hin : s ∈ ps := by rw [← hs]; exact List.getElem_mem hjl
        rw [← HPS.out] at hin
        exact List.mem_mergeSort.1 hin
      obtain ⟨hturn, hownw, hgc, hlenp, hgo⟩ := HTW.out _ _ _ HK.out
      have hcur := HK.out.disk.parts.cur
      rw [hgc] at hcur
      obtain ⟨k, hk, hkn, hpz⟩ := fileOf_listed hcur HPL.out hmem
      obtain ⟨P, hP⟩ : ∃ P : ByteArray, (⟨s.toArray⟩ : ByteArray) = P := ⟨_, rfl⟩
      rw [hP] at hk hpz
      have hkl : k < G'.pfs.length := by rw [hlenp]; exact hkn
      have henv : Env wr E := HE.out.turn hturn HO.out
      have hcell : wr.cell? ⟨D, 0, none⟩ = some (topV G'.gc) := HK.out.disk.cell 0
      rw [hgc] at hcell
      have hfile := file_any hcur D 0 hcell P (by omega) henv.max
      rw [hk] at hfile
      simp only [fileV, ptrV] at hfile
      obtain ⟨p, hp⟩ : ∃ p, G'.pfs[k]'hkl = p := ⟨_, rfl⟩
      have hfat := HK.out.disk.parts.files k hkl
      rw [hp] at hfat
      obtain ⟨hpg, hpu, hpl⟩ := hgo p (by rw [← hp]; exact List.getElem_mem hkl)
      obtain ⟨U, hU⟩ : ∃ U, unitsOf p.steps = U := ⟨_, rfl⟩
      have hUb : U < 1099511627776 := by rw [← hU]; exact hpu
      have hunits : ∀ W, Below wr.heap.size wr W → Calls Tryz.prog 50 #[.pointer (some ⟨G'.ptr k, 0, none⟩)] W fun e w' => e = .returned (.int .i64 (U : Int)) ∧ Below W.heap.size W w' := fun W hb => by
        have := units_any p _ _ _ W (hfat.turn (Turn.of_below (S := fun _ => False) hb) (fun _ _ h => h)) (by omega) (by omega)
        rw [hU] at this
        exact this
      have hkeep : ∀ W, Below wr.heap.size wr W → ∀ left, left ≤ U → Calls Tryz.prog 49 #[.pointer (some ⟨G'.ptr k, 0, none⟩), .int .i64 (left : Int), .bool zeros] W fun e w' =>
          e = .returned (.tuple #[]) ∧ ∃ bv', FileAt w' (G'.ptr k) bv' (.slice none 0 0) (p.keep left zeros) ∧ Turn (fun q => q = G'.ptr k ∨ (G'.bvs k).ownBlock = some q) W w' ∧ (bv'.ownBlock = (G'.bvs k).ownBlock ∨ ∃ q, bv'.ownBlock = some q ∧ W.heap.size ≤ q) := fun W hb left hl =>
        keep_any p _ _ _ W (hfat.turn (Turn.of_below (S := fun _ => False) hb) (fun _ _ h => h)) left B zeros (by rw [hU]; exact hl) hpu hpl hB hpg
      have hMb : M ≤ 1048576 := by
        rw [← HM.out, ← HPS.out]
        unfold sorted
        rw [List.length_mergeSort]
        exact HCN.out
      have hsum : ∀ q, pfKeep data zeros j (G'.pfs[k]'hkl) = q → G'.used + q.bytes.length < 4611686018427387904 := by
        intro q hq
        have h1 : G'.used ≤ j * B := by
          rw [HK.out.same]
          exact (keptN_good G2.gc data zeros ps G2.pfs B 1099511627776 (by rw [← HG2.out]; exact HG.out) (by omega) j).2
        have h2 : q.bytes.length ≤ B := by
          rw [← hq, hp]
          exact Good.len (keep_good hpg _ (share_le _ _) zeros)
        have h3 : j * B ≤ 1048576 * 1099511627776 := Nat.mul_le_mul (by omega) (by omega)
        omega
      have hun : G'.used < 4611686018427387904 := by have := hsum _ rfl; omega
      obtain ⟨g, cap', hva, hgl, hgc2⟩ := row_at HK.out.row j (by rw [HM.out]; exact hlt)
      rw [HM.out] at hva
      injection hva with hva _ hvc
      subst hva hvc
      rw [List.getElem?_map, List.getElem?_eq_getElem hjl, hs] at hgc2
      have hgc3 : wr.cell? ⟨g, j, none⟩ = some (.string P) := by rw [hgc2, ← hP]; rfl
      have HFI := Lib.hid hfile
      have HUN := Lib.hid hunits
      have HKE := Lib.hid hkeep
      have HSU := Lib.hid hsum
      have HPP := Lib.hid hp
      have HUU := Lib.hid hU
      have HKK := Lib.hid hk
      have HGD := Lib.hid hgd
      have HP2 := Lib.hid hP
      have HFA := Lib.hid hfat
      clear hfile hunits hkeep hsum hp hU hk hgd hP hfat hturn hownw hgo hcur hpz henv hcell hgc2 hmem hs hpg hpu hpl
      by_cases hd0 : data.length = 0
      · have hwx : wish data j = 0 := by unfold wish; rw [if_pos hd0]
        have hrem2 := fun W => remainder_any 0 (U + 1) (by omega) (by omega) (by omega) W
        simp only [Nat.add_sub_cancel] at hrem2
        have HWX := Lib.hid hwx
        have HRE := Lib.hid hrem2
        clear hwx hrem2
        go_wp2_with (first
          | (go_at_call 48; ((with_reducible refine HFI.out.mono ?_); rintro r w2 ⟨rfl, nd, rfl⟩))
          | (go_at_call 50; ((with_reducible refine (HUN.out _ ?_).mono ?_); (first | exact Turn.below (S := fun _ => False) (Turn.of_drew _) (Nat.le_refl _) (fun _ _ h => h) | skip); rintro r w3 ⟨rfl, hb3⟩; have hb4 : Below wr.heap.size wr w3 := Turn.below (S := fun _ => False) ((Turn.of_drew nd).trans (S' := fun _ => False) (Turn.of_below hb3) (fun _ _ h => h)) (Nat.le_refl _) (fun _ _ h => h)))
          | (go_at_call 45; (refine (HRE.out _).mono ?_; rintro r w4 ⟨rfl, rfl⟩))
          | (go_at_call 49; ((with_reducible refine (HKE.out _ hb4 _ (share_le _ _)).mono ?_); rintro r w5 ⟨rfl, bv', hf5, ht5, hb5⟩)))
        have hK4 := HK.out.below hb4
        obtain ⟨c4, g4⟩ := hK4.cell4 hkl hf5 ht5 hb5
        have c0 := hf5.cell0
        obtain ⟨ab, cb, rfl, _⟩ := row_len hf5.bytes
        have hpk : p.keep (share 0 U) zeros = pfKeep data zeros j (G'.pfs[k]'hkl) := by
          unfold pfKeep; rw [HWX.out, HPP.out, HUU.out]
        rw [hpk] at hf5 c0 hb5
        have hsum := HSU.out _ rfl
        have hnx := hK4.next (by rw [HGD.out, HP2.out, ← HG2.out]; exact HKK.out) hkl hf5 ht5 hb5
        generalize hBL : (pfKeep data zeros j (G'.pfs[k]'hkl)).bytes.length = BL at *
        rw [Int.natCast_add] at hnx
        have HNX := Lib.hid hnx
        clear hf5 ht5 hb5 hnx hK4 hpk hBL
        refine wp_region_still_tail 12 (by kernel_rfl) (by kernel_rfl) ?_
        simp only [List.take_succ_cons, List.take_zero, List.drop_succ_cons, List.drop_zero]
        change wpStill _ _ w5.drew _ _ _
        repeat still_step
        refine wpStill_nil ?_
        change wpList _ _ _ _ _ w5.drew
        go_wp2
        rw [(by rw [hd0] : Value.slice vda 0 vdc = .slice vda data.length vdc)]
        go_roundg (M - (j + 1))
        case measure => have := hE.out; omega
        case rel => exact ⟨j + 1, _, by show _ = _; have := hE.out; omega, by omega, by go_num, HNX.out.below (Below.refl _ _).drew⟩
      · have hdj : j % data.length < data.length := Nat.mod_lt _ (by omega)
        obtain ⟨gd0, capd, hvd, hgdl, hgd2⟩ := row_at HK.out.data (j % data.length) hdj
        injection hvd with hvd _ hvc
        subst hvd hvc
        have hm : (j : Int) % (data.length : Int) = ((j % data.length : Nat) : Int) := (Int.natCast_emod _ _).symm
        obtain ⟨x, hx⟩ : ∃ x, data[j % data.length]'hdj = x := ⟨_, rfl⟩
        have hwx : wish data j = x := by
          unfold wish
          rw [if_neg hd0, List.getD, List.getElem?_eq_getElem hdj, hx]; rfl
        have hxi : inI x := HDI.out x (by rw [← hx]; exact List.getElem_mem hdj)
        have hgd3 : wr.cell? ⟨gd0, j % data.length, none⟩ = some (.int .i64 x) := by
          rw [hgd2]; unfold ints; rw [List.getElem?_map, List.getElem?_eq_getElem hdj, hx]; rfl
        obtain ⟨q, hq⟩ : ∃ q, j % data.length = q := ⟨_, rfl⟩
        rw [hq] at hm hdj hgd3
        have hrem2 := fun W => remainder_any x (U + 1) hxi (by omega) (by omega) W
        simp only [Nat.add_sub_cancel] at hrem2
        have HWX := Lib.hid hwx
        have HRE := Lib.hid hrem2
        obtain ⟨L, hL⟩ : ∃ L, data.length = L := ⟨_, rfl⟩
        rw [hL] at hm hdj hdl hd0
        clear hx hgd2 hwx hrem2 hq
        go_wp2_with (first
          | (go_at_call 48; ((with_reducible refine HFI.out.mono ?_); rintro r w2 ⟨rfl, nd, rfl⟩))
          | (go_at_call 50; ((with_reducible refine (HUN.out _ ?_).mono ?_); (first | exact Turn.below (S := fun _ => False) (Turn.of_drew _) (Nat.le_refl _) (fun _ _ h => h) | skip); rintro r w3 ⟨rfl, hb3⟩; have hb4 : Below wr.heap.size wr w3 := Turn.below (S := fun _ => False) ((Turn.of_drew nd).trans (S' := fun _ => False) (Turn.of_below hb3) (fun _ _ h => h)) (Nat.le_refl _) (fun _ _ h => h)))
          | (go_at_call 45; (refine (HRE.out _).mono ?_; rintro r w4 ⟨rfl, rfl⟩))
          | (go_at_call 49; ((with_reducible refine (HKE.out _ hb4 _ (share_le _ _)).mono ?_); rintro r w5 ⟨rfl, bv', hf5, ht5, hb5⟩)))
        have hK4 := HK.out.below hb4
        obtain ⟨c4, g4⟩ := hK4.cell4 hkl hf5 ht5 hb5
        have c0 := hf5.cell0
        obtain ⟨ab, cb, rfl, _⟩ := row_len hf5.bytes
        have hpk : p.keep (share x U) zeros = pfKeep data zeros j (G'.pfs[k]'hkl) := by
          unfold pfKeep; rw [HWX.out, HPP.out, HUU.out]
        rw [hpk] at hf5 c0 hb5
        have hsum := HSU.out _ rfl
        have hnx := hK4.next (by rw [HGD.out, HP2.out, ← HG2.out]; exact HKK.out) hkl hf5 ht5 hb5
        generalize hBL : (pfKeep data zeros j (G'.pfs[k]'hkl)).bytes.length = BL at *
        rw [Int.natCast_add] at hnx
        have HNX := Lib.hid hnx
        clear hf5 ht5 hb5 hnx hK4 hpk hBL
        refine wp_region_still_tail 12 (by kernel_rfl) (by kernel_rfl) ?_
        simp only [List.take_succ_cons, List.take_zero, List.drop_succ_cons, List.drop_zero]
        change wpStill _ _ w5.drew _ _ _
        repeat still_step
        refine wpStill_nil ?_
        change wpList _ _ _ _ _ w5.drew
        go_wp2
        rw [(by rw [hL] : Value.slice (some ⟨gd0, 0, none⟩) L vdc = .slice (some ⟨gd0, 0, none⟩) data.length vdc)]
        go_roundg (M - (j + 1))
        case measure => have := hE.out; omega
        case rel => exact ⟨j + 1, _, by show _ = _; have := hE.out; omega, by omega, by go_num, HNX.out.below (Below.refl _ _).drew⟩
    · obtain rfl : j = M := by omega
      clear hlt hE
      have k5 : wr.cell? ⟨D, 5, none⟩ = some (.bool G'.off) := HK.out.disk.cell 5
      have k6 : wr.cell? ⟨D, 6, none⟩ = some (.int .i64 (G'.crash : Int)) := HK.out.disk.cell 6
      have g5 := HK.out.disk.fro 5
      have g6 := HK.out.disk.fro 6
      go_wp2
      go_end0
      obtain ⟨hturn, hownw, _, _, _⟩ := HTW.out _ _ _ HK.out
      have hds := (HK.out.disk.set 5 (.bool false) { G' with off := false } rfl fun hp => ⟨hp.cur, hp.dur, hp.trees, hp.row, hp.steps, hp.files, hp.inj, hp.bytes, hp.rows⟩).set 6 (.int .i64 0) { G' with off := false, crash := 0 } rfl fun hp => ⟨hp.cur, hp.dur, hp.trees, hp.row, hp.steps, hp.files, hp.inj, hp.bytes, hp.rows⟩
      refine ⟨rfl, gd', F, dl, dx, _, HAP.out, HPE.out, HLI.out, ?_, hds, ?_, hownw⟩
      · have hs := HK.out.same
        rw [HPS.out, HM.out]
        rw [← HG2.out] at hs
        obtain ⟨gc, gd, ptr, pfs, bvs, svs, steps, nv, cap, used, off, crash⟩ := G'
        simp only [DiskG.mk.injEq, DiskG.woken] at hs
        simp only [DiskG.mk.injEq]
        obtain ⟨e1, e2, e3, e9, _, _, e4, e5, e6, e10, e7, e8⟩ := hs
        simp [e1, e2, e3, e4, e5, e6, e9, e10]
      · exact (hturn.set _ _ (fun _ => .inl rfl)).set _ _ (fun _ => .inl rfl)

end Go.Proofs.YtmmlefbokplnnaaGreatDoor.Disk

namespace Go.Proofs.YtmmlefbokplnnaaGreatDoor.Disk
open Go.RowKit Go Go.Proofs.YtmmlefbokplnnaaGreatDoor.Base Go.Proofs.YtmmlefbokplnnaaGreatDoor.Map

/-- a disk that was made since w0, and a world that left all that was there before -/
structure Own (w0 w : World) (D : Nat) (G : DiskG) : Prop where
  disk : DiskAt w D G
  below : Below w0.heap.size w0 w
  own : ∀ k, G.own D k → w0.heap.size ≤ k

theorem Own.step {w0 w w' : World} {D : Nat} {G G' : DiskG} (h : Own w0 w D G) (hd : DiskAt w' D G') (ht : Turn (G.own D) w w') (hn : ∀ k, G'.own D k → G.own D k ∨ w.heap.size ≤ k) : Own w0 w' D G' :=
  ⟨hd, (((Turn.of_below h.below : Turn (fun _ => False) _ _).mono (S' := fun k => w0.heap.size ≤ k) (fun _ _ hh => hh.elim)).trans (S' := G.own D) ht (fun i _ hh => h.own i hh)).below (Nat.le_refl _) (fun i hi hh => by omega), fun k hk => by
    rcases hn k hk with h1 | h1
    · exact h.own k h1
    · have := h.below.size; omega⟩

theorem Own.below_trans {w0 w w' : World} {D : Nat} {G : DiskG} (h : Own w0 w D G) (hb : Below w.heap.size w w') : Own w0 w' D G :=
  ⟨h.disk.below hb, h.below.trans (hb.mono h.below.size), h.own⟩

theorem Own.env {w0 w : World} {D : Nat} {G : DiskG} {E : Nat → Addr} (h : Own w0 w D G) (he : Env w0 E) : Env w E := he.turn (S := fun _ => False) (Turn.of_below h.below) (fun _ _ h => h)

theorem ErrAt.zero {w : World} {E : Nat → Addr} {v : Value} {op p : ByteArray} (h : ErrAt w E v 0 op p) : v = .nilIface := by
  rcases h with ⟨_, h⟩ | ⟨h, _⟩
  · exact h
  · exact absurd rfl h

abbrev aN : ByteArray := ⟨#[97]⟩
theorem aN_path : isPath aN = true := by decide
theorem aN_dir : dirOf aN = ByteArray.empty := by decide
theorem aN_base : baseOf aN = aN := by decide

/-- a tree with one file: a -/
def oneT (g : TreeG) : Prop := ∃ fm b, g = ⟨some fm, [⟨ByteArray.empty, b, [(aN, 0)]⟩]⟩
theorem oneT.file {g : TreeG} (h : oneT g) : fileOf g aN = some 0 := by
  obtain ⟨fm, b, rfl⟩ := h
  unfold fileOf
  rw [aN_dir, aN_base]
  simp [lookFile, lookDir, Map.get]
theorem oneT.folder {g : TreeG} (h : oneT g) : isFolderG g aN = false := by
  obtain ⟨fm, b, rfl⟩ := h
  have h1 : decide (aN.size = 0) = false := by decide
  have h2 : ¬ ByteArray.empty = aN := by decide
  unfold isFolderG lookDir
  rw [h1]
  simp [h2]
theorem oneT.nums {g : TreeG} (h : oneT g) : numsIn g 1 := by
  obtain ⟨fm, b, rfl⟩ := h
  intro x hx p hp
  simp at hx; subst hx
  simp at hp; subst hp
  simp
theorem oneT_of_put {g : TreeG} (h : PutTo ⟨none, []⟩ g ByteArray.empty aN 0) : oneT g := by
  obtain ⟨gm, x, h1, h2, h3⟩ := h
  rcases h1 with rfl | ⟨_, fm, b, rfl⟩
  · simp [lookDir] at h2
  · simp [lookDir] at h2
    subst h2
    exact ⟨fm, b, by rw [h3]; simp [setFiles, Map.put]⟩

/-- the disk of wakes: one file -/
structure St (G : DiskG) (p : PF) (u : Nat) : Prop where
  gc : oneT G.gc
  gd : oneT G.gd
  steps : G.steps = []
  pfs : G.pfs = [p]
  cap : G.cap = 9
  used : G.used = u
  off : G.off = false
  crash : G.crash = 0

theorem St.nums {G : DiskG} {p : PF} {u : Nat} (h : St G p u) : NumsOk G := by
  refine ⟨?_, ?_, ?_⟩
  · rw [h.pfs]; exact h.gc.nums
  · rw [h.pfs]; exact h.gd.nums
  · rw [h.steps]; intro x hx; cases hx
theorem St.open {G : DiskG} {p : PF} {u : Nat} (h : St G p u) : openCode G aN = 0 := by
  unfold openCode
  rw [h.off, aN_path, h.gc.folder, h.gc.file]
  rfl
theorem St.pf {G : DiskG} {p : PF} {u : Nat} (h : St G p u) : pfAt G 0 = p := by unfold pfAt; rw [h.pfs]; rfl
theorem St.text {G : DiskG} {p : PF} {u : Nat} (h : St G p u) : allText G aN = p.bytes := by
  unfold allText
  rw [if_pos h.open, h.gc.file]
  simp [h.pf]

section
variable {w0 w : World} {D : Nat} {G : DiskG} {E : Nat → Addr}

theorem wk_create (he : Env w0 E) (h8 : 8 ≤ w0.heap.size) (h : Own w0 w D (newG 9)) : Calls Tryz.prog 20 #[.pointer (some ⟨D, 0, none⟩), .string aN] w fun r w' =>
    r = .returned .nilIface ∧ ∃ G', Own w0 w' D G' ∧ oneT G'.gc ∧ G'.gd = ⟨none, []⟩ ∧ G'.nsteps = [⟨2, aN, ByteArray.empty, 0⟩] ∧ G'.pfs = [⟨[], []⟩] ∧ G'.cap = 9 ∧ G'.used = 0 ∧ G'.off = false ∧ G'.crash = 0 := by
  have hc : createCode (newG 9) aN = 0 := by decide
  have := Create_any h.disk (h.env he) ⟨fun x hx => (by cases hx), fun x hx => (by cases hx), fun x hx => (by cases hx)⟩ (by decide) (fun k hk hh => by have := h.own k hh; omega) (by have := h.below.size; omega) (by decide) aN (by decide)
  refine this.mono fun r w' ⟨v, G', h1, h2, h3, h4, h5, h6⟩ => ?_
  rw [hc] at h2 h5
  rw [h2.zero] at h1
  refine ⟨h1, G', h.step h3 h4 h6, ?_⟩
  rcases h5 with ⟨h5, _⟩ | ⟨_, B, v, bs, _, g1, g2, g3, _, g5, _, _, g8, g9, g10, g11⟩
  · exact absurd rfl h5
  · rw [aN_dir, aN_base] at g1
    refine ⟨oneT_of_put g1, g3, ?_, ?_, g8, g9, g10, g11⟩
    · unfold DiskG.nsteps; rw [g2]; rfl
    · rw [g5]; rfl

theorem wk_names (he : Env w0 E) (h8 : 8 ≤ w0.heap.size) (h : Own w0 w D G) (g1 : oneT G.gc) (g2 : G.gd = ⟨none, []⟩) (g3 : G.nsteps = [⟨2, aN, ByteArray.empty, 0⟩]) (g4 : G.pfs = [⟨[], []⟩]) (g5 : G.cap = 9) (g6 : G.used = 0) (g7 : G.off = false) (g8 : G.crash = 0) :
    Calls Tryz.prog 21 #[.pointer (some ⟨D, 0, none⟩)] w fun r w' => r = .returned .nilIface ∧ ∃ G', Own w0 w' D G' ∧ St G' ⟨[], []⟩ 0 := by
  have hc : syncNamesCode G = 0 := by unfold syncNamesCode; rw [g7, g8]; rfl
  have hl : G.steps.length = 1 := by have := congrArg List.length g3; simpa [DiskG.nsteps] using this
  have := SyncNames_any h.disk (h.env he) (by rw [g8]; decide) (fun k hk hh => by have := h.own k hh; omega) (by omega) (fun j hj gm _ => by
    have hs : (G.steps[j]'hj).s = ⟨2, aN, ByteArray.empty, 0⟩ := by
      have : G.nsteps[j]'(by unfold DiskG.nsteps; simpa using hj) = (G.steps[j]'hj).s := by simp [DiskG.nsteps]
      rw [← this]
      have h0 : j = 0 := by omega
      subst h0
      simp [g3]
    rw [hs]
    exact ⟨fun h => (by cases h), by decide, by decide, fun h => (by cases h)⟩)
  refine this.mono fun r w' ⟨v, G', h1, h2, h3, h4, h5, h6⟩ => ?_
  rw [hc] at h2 h5
  rw [h2.zero] at h1
  refine ⟨h1, G', h.step h3 h4 h6, ?_⟩
  rcases h5 with ⟨h5, _⟩ | ⟨_, gd', hap, rfl⟩
  · exact absurd rfl h5
  · rw [g3, g2] at hap
    obtain ⟨gm, ha, rfl⟩ := hap
    rcases ha with ⟨hk, _⟩ | ⟨_, hp⟩ | ⟨hk, _⟩ | ⟨hk, _⟩
    · cases hk
    · simp only [aN_dir, aN_base] at hp
      exact ⟨g1, oneT_of_put hp, rfl, g4, g5, g6, g7, by simp [g8]⟩
    · cases hk
    · cases hk

theorem wk_append {p : PF} {u : Nat} (he : Env w0 E) (h : Own w0 w D G) (hs : St G p u) (hl : p.bytes.length < 1000 ∧ p.steps = []) (ao : Option Addr) (len cap : Nat) (ps : Nat → ByteArray) (hP : PartsAt w ao len ps) (hpo : ∀ b off, ao = some ⟨b, off, none⟩ → ¬ G.own D b) (hll : len < 10) (hT : u + (cat ps len).length ≤ 9) :
    Calls Tryz.prog 22 #[.pointer (some ⟨D, 0, none⟩), .string aN, .slice ao len cap] w fun r w' => r = .returned .nilIface ∧ ∃ G', Own w0 w' D G' ∧ St G' (p.add (cat ps len)) (u + (cat ps len).length) := by
  have hc : appendCode G aN (cat ps len).length = 0 := by unfold appendCode; rw [hs.open, hs.cap, hs.used, hs.crash, if_neg (by simp), if_neg (by omega), if_neg (by decide)]
  have := Append_any h.disk (h.env he) hs.nums (by rw [hs.crash]; decide) aN (by decide) ao len cap ps hP hpo (by omega) (by omega) (by rw [hs.cap]; decide) (by rw [hs.used]; omega) (fun i hi => by
    have h0 : i = 0 := by rw [hs.pfs] at hi; simpa using hi
    subst h0
    rw [hs.pf, hl.2]
    exact ⟨by omega, by decide, fun k r hh => by cases hh⟩)
  refine this.mono fun r w' ⟨v, G', h1, h2, h3, h4, h5, h6⟩ => ?_
  rw [hc] at h2 h5
  rw [h2.zero] at h1
  refine ⟨h1, G', h.step h3 h4 h6, ?_⟩
  rcases h5 with ⟨h5, _⟩ | ⟨_, i, bv, sv, hf, rfl⟩
  · exact absurd rfl h5
  · rw [hs.gc.file] at hf
    injection hf with hf
    subst hf
    refine ⟨hs.gc, hs.gd, hs.steps, ?_, hs.cap, ?_, hs.off, ?_⟩
    · simp [DiskG.file, hs.pfs, hs.pf]
    · simp [hs.used]
    · simp [DiskG.file, hs.crash]

theorem wk_sync {p : PF} {u : Nat} (he : Env w0 E) (h : Own w0 w D G) (hs : St G p u) :
    Calls Tryz.prog 23 #[.pointer (some ⟨D, 0, none⟩), .string aN] w fun r w' => r = .returned .nilIface ∧ ∃ G', Own w0 w' D G' ∧ St G' ⟨p.bytes, []⟩ u := by
  have hc : syncCode G aN = 0 := by unfold syncCode; rw [hs.open, hs.crash]; rfl
  have := Sync_any h.disk (h.env he) hs.nums (by rw [hs.crash]; decide) aN (by decide)
  refine this.mono fun r w' ⟨v, G', h1, h2, h3, h4, h5, h6⟩ => ?_
  rw [hc] at h2 h5
  rw [h2.zero] at h1
  refine ⟨h1, G', h.step h3 h4 h6, ?_⟩
  rcases h5 with ⟨h5, _⟩ | ⟨_, i, hf, rfl⟩
  · exact absurd rfl h5
  · rw [hs.gc.file] at hf
    injection hf with hf
    subst hf
    refine ⟨hs.gc, hs.gd, hs.steps, ?_, hs.cap, hs.used, hs.off, ?_⟩
    · simp [DiskG.file, hs.pfs, hs.pf]
    · simp [DiskG.file, hs.crash]

theorem wk_all {p : PF} {u : Nat} (he : Env w0 E) (h : Own w0 w D G) (hs : St G p u) :
    Calls Tryz.prog 24 #[.pointer (some ⟨D, 0, none⟩), .string aN] w fun r w' => r = .returned (.tuple #[.string (strN p.bytes), .nilIface]) ∧ Own w0 w' D G := by
  have := All_any h.disk (h.env he) hs.nums aN (by decide)
  refine this.mono fun r w' ⟨v, h1, h2, h3⟩ => ?_
  rw [hs.open] at h2
  rw [h2.zero, hs.text] at h1
  exact ⟨h1, h.below_trans h3⟩

end
end Go.Proofs.YtmmlefbokplnnaaGreatDoor.Disk

namespace Go.Proofs.YtmmlefbokplnnaaGreatDoor.Disk
open Go.RowKit Go Go.Proofs.YtmmlefbokplnnaaGreatDoor.Base Go.Proofs.YtmmlefbokplnnaaGreatDoor.Map

def p5 : PF := ⟨[120, 121, 122, 117, 118], [.add 2]⟩
def p6 : PF := ⟨[120, 121, 122, 117, 0], []⟩
theorem keep56 : pfKeep [1] true 0 p5 = p6 := by rfl

theorem kept56 {g : TreeG} (h : oneT g) : keptN g [1] true [lst aN] [p5] 1 = ([p6], 5) := by
  unfold keptN
  have e : ([lst aN].getD 0 []).toArray = (lst aN).toArray := rfl
  rw [e, bytes_lst, h.file]
  simp only [keptN, List.modify_cons, keep56]
  rfl

theorem wk_restart {w0 w : World} {D : Nat} {G : DiskG} {E : Nat → Addr} (he : Env w0 E) (h8 : 8 ≤ w0.heap.size) (h : Own w0 w D G) (hs : St G p5 5) (vd : Value) (hda : w.ownsRow 0 3 1 vd 1 [.int .i64 1]) :
    Calls Tryz.prog 13 #[.pointer (some ⟨D, 0, none⟩), .int .i64 0, vd, .bool true] w fun r w' => r = .returned (.tuple #[]) ∧ ∃ G', Own w0 w' D G' ∧ St G' p6 5 := by
  have hn : G.nsteps = [] := by unfold DiskG.nsteps; rw [hs.steps]; rfl
  have := restart_any h.disk (h.env he) (fun k hk hh => by have := h.own k hh; omega) (by rw [hs.steps]; decide) (fun j hj => by rw [hs.steps] at hj; cases hj) 0 (by unfold inI; omega) [1] vd hda (by decide) (fun x hx => by simp at hx; subst hx; unfold inI; omega) true 10 (by decide)
    (fun p hp => by
      rw [hs.pfs] at hp
      simp at hp
      subst hp
      exact ⟨⟨⟨by decide, by decide⟩, by decide, ⟨by decide, by decide⟩⟩, by decide, by decide⟩)
    (fun gm hgm => by
      rw [hn] at hgm
      have : gm = G.gd := by simpa [AppAll] using hgm
      subst this
      obtain ⟨fm, b, hg⟩ := hs.gd
      rw [hg, hs.pfs]
      refine ⟨⟨fun x hx => ?_, fun x hx p hp => ?_⟩, by simp [allPaths, pathsOf]⟩
      · simp at hx; subst hx
        exact ⟨(by unfold noSl; decide : noSl ByteArray.empty), (by decide : ByteArray.empty.size < 1000)⟩
      · simp at hx; subst hx
        simp at hp; subst hp
        exact ⟨by unfold noSl; decide, by decide, by decide⟩)
  refine this.mono fun r w' ⟨h1, gd', F, dl, dx, G', hap, hper, hlike, hG, hd, ht, hnew⟩ => ?_
  refine ⟨h1, G', h.step hd ht hnew, ?_⟩
  rw [hn] at hap
  have hgd : gd' = G.gd := by simpa [AppAll] using hap
  subst hgd
  obtain ⟨fm, b, hg⟩ := hs.gd
  rw [hg] at hper
  have hdx := List.perm_singleton.1 hper
  subst hdx
  have hdl : ∃ b', dl = [⟨ByteArray.empty, b', [(aN, 0)]⟩] := by
    unfold likeDs at hlike
    obtain ⟨x, rfl⟩ := List.length_eq_one_iff.1 (by have := congrArg List.length hlike; simpa using this)
    obtain ⟨n', b', f'⟩ := x
    simp at hlike
    exact ⟨b', by rw [hlike.1, hlike.2]⟩
  obtain ⟨b', rfl⟩ := hdl
  have hps : sorted (allPaths [⟨ByteArray.empty, b', [(aN, 0)]⟩]) = [lst aN] := by
    have e : allPaths [⟨ByteArray.empty, b', [(aN, 0)]⟩] = [lst aN] := by
      simp [allPaths, pathsOf, pathOf]
    rw [e]
    unfold sorted
    exact List.mergeSort_singleton _
  rw [hps, hs.pfs] at hG
  have hk := kept56 (g := ⟨some F, [⟨ByteArray.empty, b', [(aN, 0)]⟩]⟩) ⟨F, b', rfl⟩
  simp only [List.length_cons, List.length_nil, Nat.zero_add] at hG
  rw [hk] at hG
  rw [hG]
  exact ⟨⟨F, b', rfl⟩, ⟨fm, b, hg⟩, rfl, rfl, hs.cap, rfl, rfl, rfl⟩

end Go.Proofs.YtmmlefbokplnnaaGreatDoor.Disk

namespace Go.Proofs.YtmmlefbokplnnaaGreatDoor.Disk
open Go.RowKit Go Go.Proofs.YtmmlefbokplnnaaGreatDoor.Base Go.Proofs.YtmmlefbokplnnaaGreatDoor.Map

theorem txt6 : strN p6.bytes = ⟨#[120, 121, 122, 117, 0]⟩ := by decide

theorem own_new {w w' : World} (hd : DiskAt w' w.heap.size (newG 9)) (hb : Below w.heap.size w w') : Own w w' w.heap.size (newG 9) :=
  ⟨hd, hb, fun k hk => by
    rcases hk with hk | hk | hk | hk | ⟨x, hx, _⟩ | ⟨i, hi, _⟩
    · omega
    · simp [newG, TreeG.blocks] at hk
    · simp [newG, TreeG.blocks] at hk
    · cases hk
    · cases hx
    · cases hi⟩

theorem wk_parts {w0 w : World} {D : Nat} {G : DiskG} {E : Nat → Addr} {p : PF} {u : Nat} (he : Env w0 E) (h : Own w0 w D G) (hs : St G p u) (hl : p.bytes.length < 1000 ∧ p.steps = []) (l : List ByteArray) (T : List Nat) (hll : l.length < 10) (hT : u + T.length ≤ 9)
    (hc : cat (fun j => l.getD j ByteArray.empty) l.length = T) :
    Calls Tryz.prog 22 #[.pointer (some ⟨D, 0, none⟩), .string aN, .slice (some ⟨w.heap.size, 0, none⟩) l.length l.length] (w.alloc (.cells (l.map Value.string).toArray 9)) fun r w' => r = .returned .nilIface ∧ ∃ G', Own w0 w' D G' ∧ St G' (p.add T) (u + T.length) := by
  have hb : Below w.heap.size w (w.alloc (.cells (l.map Value.string).toArray 9)) := below_alloc _ _
  have := wk_append he (h.below_trans hb) hs hl (some ⟨w.heap.size, 0, none⟩) l.length l.length (fun j => l.getD j ByteArray.empty) (fun j hj => ⟨w.heap.size, 0, rfl, by simp, by
    rw [cell_of_row _ w.heap.size _ _ _ _ (heap_alloc_new w _)]
    simp [hj]⟩) (fun b off e hk => by
      injection e with e
      injection e with e
      subst e
      have := Parts.own_lt h.disk _ hk
      omega) hll (by rw [hc]; exact hT)
  rw [hc] at this
  exact this

set_option maxRecDepth 100000 in
set_option maxHeartbeats 4000000 in
theorem wakes_any (w : World) (E : Nat → Addr) (he : Env w E) (h8 : 8 ≤ w.heap.size) : Calls Tryz.prog 10 #[] w fun e w' => e = .returned (.bool true) ∧ Below w.heap.size w w' := by
  have hnew := new_any 9 w
  have HE := Lib.hid he
  have H8 := Lib.hid h8
  clear he h8
  go_enter Tryz.func10, Tryz.ntmps10
  go_wp2_with (first
    | (go_at_call 8; refine hnew.mono ?_; rintro r w1 ⟨rfl, hd1, hb1⟩; have O1 := Lib.hid (own_new hd1 hb1); clear hd1 hb1)
    | (go_at_call 20; ((with_reducible refine (wk_create HE.out H8.out O1.out).mono ?_); rintro r w2 ⟨rfl, G2, hO2, hG2⟩; have O2 := Lib.hid hO2; have K2 := Lib.hid hG2; clear hO2 hG2))
    | (go_at_call 21; (obtain ⟨k1, k2, k3, k4, k5, k6, k7, k8⟩ := K2.out; (with_reducible refine (wk_names HE.out H8.out O2.out k1 k2 k3 k4 k5 k6 k7 k8).mono ?_); rintro r w3 ⟨rfl, G3, hO3, hG3⟩; have O3 := Lib.hid hO3; have K3 := Lib.hid hG3; clear hO3 hG3 k1 k2 k3 k4 k5 k6 k7 k8; have A4 := Lib.hid (wk_parts HE.out O3.out K3.out ⟨by decide, rfl⟩ [⟨#[120, 121, 122]⟩] [120, 121, 122] (by decide) (by decide) rfl)))
    | (go_at_call 22; (refine A4.out.mono ?_; rintro r w4 ⟨rfl, G4, hO4, hG4⟩; have O4 := Lib.hid hO4; have K4 := Lib.hid hG4; clear hO4 hG4 A4))
    | (go_at_call 23; ((with_reducible refine (wk_sync HE.out O4.out K4.out).mono ?_); rintro r w5 ⟨rfl, G5, hO5, hG5⟩; have O5 := Lib.hid hO5; have A6 := Lib.hid (wk_parts HE.out hO5 hG5 ⟨by decide, rfl⟩ [⟨#[117]⟩, ⟨#[118]⟩] [117, 118] (by decide) (by decide) rfl); clear hO5 hG5))
    | (go_at_call 22; (refine A6.out.mono ?_; rintro r w6 ⟨rfl, G6, hO6, hG6⟩; have O6 := Lib.hid hO6; have K6 : Hid (St G6 p5 5) := hG6; have A7 := Lib.hid (wk_restart HE.out H8.out (hO6.below_trans (below_alloc _ (.cells #[.int .i64 1] 3))) hG6 (.slice (some ⟨w6.heap.size, 0, none⟩) 1 1) (World.ownsRow_lit w6 #[.int .i64 1] 1 (Nat.zero_le _) (by decide) rfl)); clear hO6 hG6 A6))
    | (go_at_call 13; ((with_reducible refine A7.out.mono ?_); rintro r w7 ⟨rfl, G7, hO7, hG7⟩; have O7 := Lib.hid hO7; have K7 := Lib.hid hG7; clear hO7 hG7))
    | (go_at_call 24; (have A8 := wk_all HE.out O7.out K7.out; rw [txt6] at A8; (with_reducible refine A8.mono ?_); clear A8; rintro r w8 ⟨rfl, hO8⟩; have O8 := Lib.hid hO8; have U8 := used_any hO8.disk; rw [K7.out.off, K7.out.used] at U8; clear hO8))
    | (go_at_call 15; (refine U8.mono ?_; rintro r w9 ⟨rfl, rfl⟩)))
  all_goals
    go_ret
    exact ⟨rfl, O8.out.below⟩

end Go.Proofs.YtmmlefbokplnnaaGreatDoor.Disk

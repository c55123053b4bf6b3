/-
  Restart: the contract. Own text.
-/
import Derived.Test.YtanbmlikfhcpoaaDoorDRestart
namespace Go.Proofs.YtanbmlikfhcpoaaDoor.Disk
open Go.RowKit Go Go.Proofs.YtanbmlikfhcpoaaDoor.Base Go.Proofs.YtanbmlikfhcpoaaDoor.Map

def inI (x : Int) : Prop := -9223372036854775808 ≤ x ∧ x ≤ 9223372036854775807

theorem likeDs.paths {a b : List DirG} (h : likeDs a b) : allPaths a = allPaths b := by
  unfold allPaths likeDs at *
  have e : ∀ l : List DirG, l.flatMap pathsOf = (l.map fun x => (x.name, x.files)).flatMap fun q => q.2.map fun p => lst (pathOf q.1 p.1) := by
    intro l
    rw [List.flatMap_map]
    rfl
  rw [e a, e b, h]

theorem likeDs.mem {a b : List DirG} (h : likeDs a b) {x : DirG} (hx : x ∈ a) : ∃ y ∈ b, y.name = x.name ∧ y.files = x.files := by
  have : (x.name, x.files) ∈ b.map fun x => (x.name, x.files) := by rw [← h]; exact List.mem_map_of_mem hx
  obtain ⟨y, hy, e⟩ := List.mem_map.1 this
  injection e with e1 e2
  exact ⟨y, hy, e1, e2⟩

theorem Plain.like {g g' : TreeG} {n : Nat} {dx : List DirG} (h : Plain g n) (hp : dx.Perm g.ds) (hl : likeDs g'.ds dx) : Plain g' n := by
  refine ⟨fun x hx => ?_, fun x hx p hm => ?_⟩
  · obtain ⟨y, hy, e1, _⟩ := hl.mem hx
    rw [← e1]; exact h.dir y (hp.mem_iff.1 hy)
  · obtain ⟨y, hy, _, e2⟩ := hl.mem hx
    rw [← e2] at hm; exact h.file y (hp.mem_iff.1 hy) p hm

theorem keptN_good (g : TreeG) (data : List Int) (zeros : Bool) (ps : List (List UInt8)) (pfs : List PF) (B C : Nat) (h : ∀ p ∈ pfs, p.Good B ∧ unitsOf p.steps < C ∧ p.steps.length < C) (hC : 0 < C) (j : Nat) :
    (∀ p ∈ (keptN g data zeros ps pfs j).1, p.Good B ∧ unitsOf p.steps < C ∧ p.steps.length < C) ∧ (keptN g data zeros ps pfs j).2 ≤ j * B := by
  induction j with
  | zero => exact ⟨h, Nat.zero_le _⟩
  | succ j ih =>
    obtain ⟨i1, i2⟩ := ih
    unfold keptN
    split
    · exact ⟨i1, by rw [Nat.succ_mul]; simp only; omega⟩
    · rename_i k hk
      simp only
      have key : ∀ p ∈ (keptN g data zeros ps pfs j).1.modify k (pfKeep data zeros j), p.Good B ∧ unitsOf p.steps < C ∧ p.steps.length < C := by
        intro p hp
        by_cases hkl : k < (keptN g data zeros ps pfs j).1.length
        · rw [modify_set _ _ _ hkl] at hp
          rcases List.mem_or_eq_of_mem_set hp with hp | hp
          · exact i1 p hp
          · subst hp
            have := i1 _ (List.getElem_mem hkl)
            exact ⟨keep_good this.1 _ (share_le _ _) _, by simpa [pfKeep, PF.keep, unitsOf] using hC, by simpa [pfKeep, PF.keep] using hC⟩
        · rw [List.modify_eq_self (by omega)] at hp
          exact i1 p hp
      refine ⟨key, ?_⟩
      have : lenP ((keptN g data zeros ps pfs j).1.modify k (pfKeep data zeros j)) k ≤ B := by
        unfold lenP
        cases hh : ((keptN g data zeros ps pfs j).1.modify k (pfKeep data zeros j))[k]? with
        | none => simp
        | some p => simp; exact (key p (List.mem_of_getElem? hh)).1.len
      rw [Nat.succ_mul]
      omega

/-- the disk when its names have come back -/
def DiskG.woken (G : DiskG) (gd' : TreeG) (F : Nat) (dl : List DirG) : DiskG := { G with gc := ⟨some F, dl⟩, gd := gd', steps := [], nv := .slice none 0 0, used := 0 }

set_option maxRecDepth 100000 in
set_option maxHeartbeats 4000000 in
theorem restart_any {w : World} {D : Nat} {G : DiskG} {E : Nat → Addr} (h : DiskAt w D G) (he : Env w E) (hown : ∀ k, k < 8 → ¬ G.own D k) (hlen : G.steps.length < 1099511627776)
    (hfit : ∀ j (hj : j < G.steps.length) gm, AppAll (G.nsteps.take j) G.gd gm → Fits (G.steps[j]'hj).s gm)
    (names : Int) (hnames : inI names) (data : List Int) (vd : Value) (hdata : w.ownsRow 0 3 1 vd data.length (ints data)) (hdl : data.length < 1099511627776) (hdi : ∀ x ∈ data, inI x) (zeros : Bool)
    (B : Nat) (hB : B < 1099511627776) (hgood : ∀ p ∈ G.pfs, p.Good B ∧ unitsOf p.steps < 1099511627776 ∧ p.steps.length < 1099511627776)
    (hplain : ∀ gm, AppAll (G.nsteps.take (share names G.steps.length)) G.gd gm → Plain gm G.pfs.length ∧ (allPaths gm.ds).length ≤ 1048576) :
    Calls Tryd.prog 11 #[.pointer (some ⟨D, 0, none⟩), .int .i64 names, vd, .bool zeros] w fun r w' =>
      r = .returned (.tuple #[]) ∧ ∃ gd' F dl dx G', AppAll (G.nsteps.take (share names G.steps.length)) G.gd gd' ∧ dx.Perm gd'.ds ∧ likeDs dl dx ∧
        G' = { G with gc := ⟨some F, dl⟩, gd := gd', pfs := (keptN ⟨some F, dl⟩ data zeros (sorted (allPaths dl)) G.pfs (sorted (allPaths dl)).length).1, used := (keptN ⟨some F, dl⟩ data zeros (sorted (allPaths dl)) G.pfs (sorted (allPaths dl)).length).2, bvs := G'.bvs, svs := G'.svs, steps := [], nv := .slice none 0 0, off := false, crash := 0 } ∧
        DiskAt w' D G' ∧ Turn (G.own D) w w' ∧ (∀ k, G'.own D k → G.own D k ∨ w.heap.size ≤ k) := by
  have hmd := makeDurable_any h he hown (share names G.steps.length) (share_le _ _) hlen hfit
  have hrem := fun W => remainder_any names (G.steps.length + 1) hnames (by omega) (by omega) W
  simp only [Nat.add_sub_cancel] at hrem
  obtain ⟨ad, cap, hnv, _⟩ := row_len h.parts.row
  have c2 : w.cell? ⟨D, 2, none⟩ = some (.slice ad G.steps.length cap) := by rw [h.cell 2, ← hnv]; rfl
  obtain ⟨N, hN⟩ : ∃ N, G.steps.length = N := ⟨_, rfl⟩
  rw [hN] at c2 hrem hmd hlen hplain ⊢
  have HN := Lib.hid hN
  have HMD := Lib.hid hmd
  have HD := Lib.hid h
  have HE := Lib.hid he
  have HO := Lib.hid hown
  have HF := Lib.hid hfit
  have HG := Lib.hid hgood
  have HP := Lib.hid hplain
  have HDI := Lib.hid hdi
  have HDA := Lib.hid hdata
  clear h he hown hfit hmd hnv hN hnames hgood hplain hdi hdata
  go_enter Tryd.func11, Tryd.ntmps11
  go_wp2_with (first
    | (go_at_call 23; refine (hrem _).mono ?_; rintro r w2 ⟨rfl, rfl⟩)
    | (go_at_call 22; ((with_reducible refine HMD.out.mono ?_); rintro r w4 ⟨rfl, gd', hap, hd4, ht4, hb4⟩; have q2 : w4.cell? ⟨D, 2, none⟩ = some G.nv := hd4.cell 2; have f2 := hd4.fro 2; have HD5 := Lib.hid hd4.noNames; have HCC := Lib.hid (clone_any (ptr := G.ptr) (g := gd') HD5.out.parts.dur D 1 (HD5.out.cell 1)); have HT4 := Lib.hid ht4; have HB4 := Lib.hid hb4; clear hd4 ht4 hb4))
    | (go_at_call 24; ((with_reducible refine HCC.out.mono ?_); rintro r w6 ⟨F, dl, dx, rfl, hcl, hperm, hlike⟩; have hd6 := HD5.out.below hcl.below; have q0 : w6.cell? ⟨D, 0, none⟩ = some (topV G.gc) := hd6.cell 0; have q4 : w6.cell? ⟨D, 4, none⟩ = some (.int .i64 (G.used : Int)) := hd6.cell 4; have f0 := hd6.fro 0; have f4 := hd6.fro 4; have HD7 := Lib.hid (HD5.out.recloned hcl); have HCL := Lib.hid hcl; have HPE := Lib.hid hperm; have HLI := Lib.hid hlike; clear hd6 hcl hperm hlike)))
  obtain ⟨W7, hW7⟩ : ∃ W7, W7 = (w6.setCell ⟨D, 0, none⟩ (.map (some F))).setCell ⟨D, 4, none⟩ (.int .i64 0) := ⟨_, rfl⟩
  rw [← hW7]
  have hd8 : DiskAt W7 D (G.woken gd' F dl) := by
    rw [hW7]
    exact HD7.out.set 4 (.int .i64 0) _ rfl fun hp => ⟨hp.cur, hp.dur, hp.trees, hp.row, hp.steps, hp.files, hp.inj, hp.bytes, hp.rows⟩
  have ht8 : Turn (fun k => k = D ∨ k ∈ G.gd.blocks) w W7 := by
    rw [hW7]
    refine ((HT4.out.set ⟨D, 2, none⟩ (.slice none 0 0) (fun _ => .inl rfl)).trans (S' := fun k => k = D) ?_ (fun k _ hh => .inl hh))
    exact (((Turn.of_below HCL.out.below : Turn (fun k => k = D) _ _).set _ _ (fun _ => rfl)).set _ _ (fun _ => rfl))
  have hpl := HP.out gd' hap
  have hpl2 : Plain ⟨some F, dl⟩ G.pfs.length := hpl.1.like HPE.out HLI.out
  have hcnt : (allPaths dl).length ≤ 1048576 := by
    rw [HLI.out.paths]
    exact Nat.le_trans (Nat.le_of_eq (List.Perm.flatMap_right _ HPE.out).length_eq) hpl.2
  have hpaths := paths_any (g := ⟨some F, dl⟩) hd8.parts.cur D 0 (hd8.cell 0) (fun x hx => ⟨by have := (hpl2.dir x hx).2; omega, fun p hm => by have := (hpl2.file x hx p hm).2.1; omega⟩) (by simp only; omega)
  have hown8 : ∀ k, (G.woken gd' F dl).own D k → G.own D k ∨ w.heap.size ≤ k := by
    have s4 := HT4.out.size
    intro k hk
    rcases hk with hk | hk | hk | hk | ⟨x, hx, _⟩ | hk
    · exact .inl (.inl hk)
    · unfold TreeG.blocks at hk
      simp only [DiskG.woken, Option.toList_some, List.cons_append, List.nil_append, List.mem_cons, List.mem_map] at hk
      have hb : w4.heap.size ≤ F := by have := HCL.out.base; simpa using this
      rcases hk with rfl | ⟨x, hx, rfl⟩
      · exact .inr (by omega)
      · have hx2 : w4.heap.size ≤ x.blk := by have := (HCL.out.new x hx).1; simpa using this
        exact .inr (by omega)
    · rcases HB4.out k hk with h1 | h1
      · exact .inl (.inr (.inr (.inl h1)))
      · exact .inr h1
    · cases hk
    · cases hx
    · exact .inl (.inr (.inr (.inr (.inr (.inr hk)))))
  have hda8 : W7.ownsRow 0 3 1 vd data.length (ints data) := row_turn HDA.out ht8 fun k hk hh => by
    rcases hh with hh | hh
    · subst hh; exact (row_kind HDA.out hk).ne HD.out.kind (by decide) rfl
    · exact (row_kind HDA.out hk).noMap (HD.out.parts.dur.maps k hh)
  have HPA := Lib.hid hpaths
  have HD8 := Lib.hid hd8
  have HT8 := Lib.hid ht8
  have HPL := Lib.hid hpl2
  have HOW := Lib.hid hown8
  have HDA8 := Lib.hid hda8
  have HAP := Lib.hid hap
  have HCN := Lib.hid hcnt
  clear hpaths hd8 ht8 hpl hpl2 hown8 hda8 hcnt hap hW7
  with_reducible refine HPA.out.mono ?_
  rintro r W8 ⟨vps, rfl, hrow⟩
  obtain ⟨G2, hG2⟩ : ∃ G2, G.woken gd' F dl = G2 := ⟨_, rfl⟩
  obtain ⟨ps, hps⟩ : ∃ ps, sorted (allPaths dl) = ps := ⟨_, rfl⟩
  obtain ⟨M, hM⟩ : ∃ M, ps.length = M := ⟨_, rfl⟩
  simp only [hps] at hrow
  have hkp : Keeping W8 D G2 data zeros ps vps vd W8 0 G2 := by
    rw [← hG2]
    exact ⟨HD8.out.below hrow.below, rfl, hrow.row, row_turn HDA8.out (Turn.of_below (S := fun _ => False) hrow.below) (fun _ _ h => h), Turn.refl _ _, fun k hk => .inl hk⟩
  obtain ⟨va, vcp, rfl, _⟩ := row_len hrow.row
  rw [hM] at hkp
  obtain ⟨vda, vdc, rfl, _⟩ := row_len HDA.out
  rw [hM]
  have HG2 := Lib.hid hG2
  have HPS := Lib.hid hps
  have HM := Lib.hid hM
  have HRO := Lib.hid hrow
  have HKP := Lib.hid hkp
  clear hG2 hps hM hrow hkp
  have htw : ∀ wr j G', Keeping W8 D G2 data zeros ps (.slice va M vcp) (.slice vda data.length vdc) wr j G' → Turn (G.own D) w wr ∧ (∀ k, G'.own D k → G.own D k ∨ w.heap.size ≤ k) ∧ G'.gc = ⟨some F, dl⟩ ∧ G'.pfs.length = G.pfs.length ∧ (∀ p ∈ G'.pfs, p.Good B ∧ unitsOf p.steps < 1099511627776 ∧ p.steps.length < 1099511627776) := by
    intro wr j G' hk
    have s1 := HT8.out.size
    have s2 := HRO.out.below.size
    have hg := (keptN_good G2.gc data zeros ps G2.pfs B 1099511627776 (by rw [← HG2.out]; exact HG.out) (by omega) j).1
    refine ⟨?_, ?_, ?_, ?_, ?_⟩
    · refine ((HT8.out.mono (fun k _ hh => ?_) : Turn (G.own D) w W7).trans (Turn.of_below (S := fun _ => False) HRO.out.below) (fun _ _ hh => hh.elim)).trans hk.turn ?_
      · rcases hh with hh | hh
        · exact .inl hh
        · exact .inr (.inr (.inl hh))
      · intro k hkl hh
        rw [← HG2.out] at hh
        rcases HOW.out k hh with h1 | h1
        · exact h1
        · omega
    · intro k hh
      rcases hk.own k hh with h1 | h1
      · rw [← HG2.out] at h1; exact HOW.out k h1
      · exact .inr (by omega)
    · rw [hk.same, ← HG2.out]; rfl
    · rw [hk.len, ← HG2.out]; rfl
    · rw [hk.same]; exact hg
  have HTW := Lib.hid htw
  clear htw
  go_wp2_with fail
  go_loopg [42] M (fun r i wr => ∃ (j : Nat) (G' : DiskG), Hid (j + r = M) ∧ j ≤ M ∧ i = .int .i64 (j : Int) ∧ Hid (Keeping W8 D G2 data zeros ps (.slice va M vcp) (.slice vda data.length vdc) wr j G'))
  case atStart => exact ⟨0, G2, Nat.zero_add _, Nat.zero_le _, rfl, HKP.out⟩
  case round =>
    obtain ⟨j, G', hE, hj, rfl, HK⟩ := hrel
    by_cases hlt : j < M
    · have hjl : j < ps.length := by rw [HM.out]; exact hlt
      obtain ⟨s, hs⟩ : ∃ s, ps[j]'hjl = s := ⟨_, rfl⟩
      have hgd : ps.getD j [] = s := by rw [List.getD, List.getElem?_eq_getElem hjl, hs]; rfl
      have hmem : s ∈ allPaths dl := by
        have hin : s ∈ ps := by rw [← hs]; exact List.getElem_mem hjl
        rw [← HPS.out] at hin
        exact List.mem_mergeSort.1 hin
      obtain ⟨hturn, hownw, hgc, hlenp, hgo⟩ := HTW.out _ _ _ HK.out
      have hcur := HK.out.disk.parts.cur
      rw [hgc] at hcur
      obtain ⟨k, hk, hkn, hpz⟩ := fileOf_listed hcur HPL.out hmem
      obtain ⟨P, hP⟩ : ∃ P : ByteArray, (⟨s.toArray⟩ : ByteArray) = P := ⟨_, rfl⟩
      rw [hP] at hk hpz
      have hkl : k < G'.pfs.length := by rw [hlenp]; exact hkn
      have henv : Env wr E := HE.out.turn hturn HO.out
      have hcell : wr.cell? ⟨D, 0, none⟩ = some (topV G'.gc) := HK.out.disk.cell 0
      rw [hgc] at hcell
      have hfile := file_any hcur D 0 hcell P (by omega) henv.max
      rw [hk] at hfile
      simp only [fileV, ptrV] at hfile
      obtain ⟨p, hp⟩ : ∃ p, G'.pfs[k]'hkl = p := ⟨_, rfl⟩
      have hfat := HK.out.disk.parts.files k hkl
      rw [hp] at hfat
      obtain ⟨hpg, hpu, hpl⟩ := hgo p (by rw [← hp]; exact List.getElem_mem hkl)
      obtain ⟨U, hU⟩ : ∃ U, unitsOf p.steps = U := ⟨_, rfl⟩
      have hUb : U < 1099511627776 := by rw [← hU]; exact hpu
      have hunits : ∀ W, Below wr.heap.size wr W → Calls Tryd.prog 28 #[.pointer (some ⟨G'.ptr k, 0, none⟩)] W fun e w' => e = .returned (.int .i64 (U : Int)) ∧ Below W.heap.size W w' := fun W hb => by
        have := units_any p _ _ _ W (hfat.turn (Turn.of_below (S := fun _ => False) hb) (fun _ _ h => h)) (by omega) (by omega)
        rw [hU] at this
        exact this
      have hkeep : ∀ W, Below wr.heap.size wr W → ∀ left, left ≤ U → Calls Tryd.prog 27 #[.pointer (some ⟨G'.ptr k, 0, none⟩), .int .i64 (left : Int), .bool zeros] W fun e w' =>
          e = .returned (.tuple #[]) ∧ ∃ bv', FileAt w' (G'.ptr k) bv' (.slice none 0 0) (p.keep left zeros) ∧ Turn (fun q => q = G'.ptr k ∨ (G'.bvs k).ownBlock = some q) W w' ∧ (bv'.ownBlock = (G'.bvs k).ownBlock ∨ ∃ q, bv'.ownBlock = some q ∧ W.heap.size ≤ q) := fun W hb left hl =>
        keep_any p _ _ _ W (hfat.turn (Turn.of_below (S := fun _ => False) hb) (fun _ _ h => h)) left B zeros (by rw [hU]; exact hl) hpu hpl hB hpg
      have hMb : M ≤ 1048576 := by
        rw [← HM.out, ← HPS.out]
        unfold sorted
        rw [List.length_mergeSort]
        exact HCN.out
      have hsum : ∀ q, pfKeep data zeros j (G'.pfs[k]'hkl) = q → G'.used + q.bytes.length < 4611686018427387904 := by
        intro q hq
        have h1 : G'.used ≤ j * B := by
          rw [HK.out.same]
          exact (keptN_good G2.gc data zeros ps G2.pfs B 1099511627776 (by rw [← HG2.out]; exact HG.out) (by omega) j).2
        have h2 : q.bytes.length ≤ B := by
          rw [← hq, hp]
          exact Good.len (keep_good hpg _ (share_le _ _) zeros)
        have h3 : j * B ≤ 1048576 * 1099511627776 := Nat.mul_le_mul (by omega) (by omega)
        omega
      have hun : G'.used < 4611686018427387904 := by have := hsum _ rfl; omega
      obtain ⟨g, cap', hva, hgl, hgc2⟩ := row_at HK.out.row j (by rw [HM.out]; exact hlt)
      rw [HM.out] at hva
      injection hva with hva _ hvc
      subst hva hvc
      rw [List.getElem?_map, List.getElem?_eq_getElem hjl, hs] at hgc2
      have hgc3 : wr.cell? ⟨g, j, none⟩ = some (.string P) := by rw [hgc2, ← hP]; rfl
      have HFI := Lib.hid hfile
      have HUN := Lib.hid hunits
      have HKE := Lib.hid hkeep
      have HSU := Lib.hid hsum
      have HPP := Lib.hid hp
      have HUU := Lib.hid hU
      have HKK := Lib.hid hk
      have HGD := Lib.hid hgd
      have HP2 := Lib.hid hP
      have HFA := Lib.hid hfat
      clear hfile hunits hkeep hsum hp hU hk hgd hP hfat hturn hownw hgo hcur hpz henv hcell hgc2 hmem hs hpg hpu hpl
      by_cases hd0 : data.length = 0
      · have hwx : wish data j = 0 := by unfold wish; rw [if_pos hd0]
        have hrem2 := fun W => remainder_any 0 (U + 1) (by omega) (by omega) (by omega) W
        simp only [Nat.add_sub_cancel] at hrem2
        have HWX := Lib.hid hwx
        have HRE := Lib.hid hrem2
        clear hwx hrem2
        go_wp2_with (first
          | (go_at_call 26; ((with_reducible refine HFI.out.mono ?_); rintro r w2 ⟨rfl, nd, rfl⟩))
          | (go_at_call 28; ((with_reducible refine (HUN.out _ ?_).mono ?_); (first | exact Turn.below (S := fun _ => False) (Turn.of_drew _) (Nat.le_refl _) (fun _ _ h => h) | skip); rintro r w3 ⟨rfl, hb3⟩; have hb4 : Below wr.heap.size wr w3 := Turn.below (S := fun _ => False) ((Turn.of_drew nd).trans (S' := fun _ => False) (Turn.of_below hb3) (fun _ _ h => h)) (Nat.le_refl _) (fun _ _ h => h)))
          | (go_at_call 23; (refine (HRE.out _).mono ?_; rintro r w4 ⟨rfl, rfl⟩))
          | (go_at_call 27; ((with_reducible refine (HKE.out _ hb4 _ (share_le _ _)).mono ?_); rintro r w5 ⟨rfl, bv', hf5, ht5, hb5⟩)))
        have hK4 := HK.out.below hb4
        obtain ⟨c4, g4⟩ := hK4.cell4 hkl hf5 ht5 hb5
        have c0 := hf5.cell0
        obtain ⟨ab, cb, rfl, _⟩ := row_len hf5.bytes
        have hpk : p.keep (share 0 U) zeros = pfKeep data zeros j (G'.pfs[k]'hkl) := by
          unfold pfKeep; rw [HWX.out, HPP.out, HUU.out]
        rw [hpk] at hf5 c0 hb5
        have hsum := HSU.out _ rfl
        have hnx := hK4.next (by rw [HGD.out, HP2.out, ← HG2.out]; exact HKK.out) hkl hf5 ht5 hb5
        generalize hBL : (pfKeep data zeros j (G'.pfs[k]'hkl)).bytes.length = BL at *
        rw [Int.natCast_add] at hnx
        have HNX := Lib.hid hnx
        clear hf5 ht5 hb5 hnx hK4 hpk hBL
        refine wp_region_still_tail 12 (by kernel_rfl) (by kernel_rfl) ?_
        simp only [List.take_succ_cons, List.take_zero, List.drop_succ_cons, List.drop_zero]
        change wpStill _ _ w5.drew _ _ _
        repeat still_step
        refine wpStill_nil ?_
        change wpList _ _ _ _ _ w5.drew
        go_wp2
        rw [(by rw [hd0] : Value.slice vda 0 vdc = .slice vda data.length vdc)]
        go_roundg (M - (j + 1))
        case measure => have := hE.out; omega
        case rel => exact ⟨j + 1, _, by show _ = _; have := hE.out; omega, by omega, by go_num, HNX.out.below (Below.refl _ _).drew⟩
      · have hdj : j % data.length < data.length := Nat.mod_lt _ (by omega)
        obtain ⟨gd0, capd, hvd, hgdl, hgd2⟩ := row_at HK.out.data (j % data.length) hdj
        injection hvd with hvd _ hvc
        subst hvd hvc
        have hm : (j : Int) % (data.length : Int) = ((j % data.length : Nat) : Int) := (Int.natCast_emod _ _).symm
        obtain ⟨x, hx⟩ : ∃ x, data[j % data.length]'hdj = x := ⟨_, rfl⟩
        have hwx : wish data j = x := by
          unfold wish
          rw [if_neg hd0, List.getD, List.getElem?_eq_getElem hdj, hx]; rfl
        have hxi : inI x := HDI.out x (by rw [← hx]; exact List.getElem_mem hdj)
        have hgd3 : wr.cell? ⟨gd0, j % data.length, none⟩ = some (.int .i64 x) := by
          rw [hgd2]; unfold ints; rw [List.getElem?_map, List.getElem?_eq_getElem hdj, hx]; rfl
        obtain ⟨q, hq⟩ : ∃ q, j % data.length = q := ⟨_, rfl⟩
        rw [hq] at hm hdj hgd3
        have hrem2 := fun W => remainder_any x (U + 1) hxi (by omega) (by omega) W
        simp only [Nat.add_sub_cancel] at hrem2
        have HWX := Lib.hid hwx
        have HRE := Lib.hid hrem2
        obtain ⟨L, hL⟩ : ∃ L, data.length = L := ⟨_, rfl⟩
        rw [hL] at hm hdj hdl hd0
        clear hx hgd2 hwx hrem2 hq
        go_wp2_with (first
          | (go_at_call 26; ((with_reducible refine HFI.out.mono ?_); rintro r w2 ⟨rfl, nd, rfl⟩))
          | (go_at_call 28; ((with_reducible refine (HUN.out _ ?_).mono ?_); (first | exact Turn.below (S := fun _ => False) (Turn.of_drew _) (Nat.le_refl _) (fun _ _ h => h) | skip); rintro r w3 ⟨rfl, hb3⟩; have hb4 : Below wr.heap.size wr w3 := Turn.below (S := fun _ => False) ((Turn.of_drew nd).trans (S' := fun _ => False) (Turn.of_below hb3) (fun _ _ h => h)) (Nat.le_refl _) (fun _ _ h => h)))
          | (go_at_call 23; (refine (HRE.out _).mono ?_; rintro r w4 ⟨rfl, rfl⟩))
          | (go_at_call 27; ((with_reducible refine (HKE.out _ hb4 _ (share_le _ _)).mono ?_); rintro r w5 ⟨rfl, bv', hf5, ht5, hb5⟩)))
        have hK4 := HK.out.below hb4
        obtain ⟨c4, g4⟩ := hK4.cell4 hkl hf5 ht5 hb5
        have c0 := hf5.cell0
        obtain ⟨ab, cb, rfl, _⟩ := row_len hf5.bytes
        have hpk : p.keep (share x U) zeros = pfKeep data zeros j (G'.pfs[k]'hkl) := by
          unfold pfKeep; rw [HWX.out, HPP.out, HUU.out]
        rw [hpk] at hf5 c0 hb5
        have hsum := HSU.out _ rfl
        have hnx := hK4.next (by rw [HGD.out, HP2.out, ← HG2.out]; exact HKK.out) hkl hf5 ht5 hb5
        generalize hBL : (pfKeep data zeros j (G'.pfs[k]'hkl)).bytes.length = BL at *
        rw [Int.natCast_add] at hnx
        have HNX := Lib.hid hnx
        clear hf5 ht5 hb5 hnx hK4 hpk hBL
        refine wp_region_still_tail 12 (by kernel_rfl) (by kernel_rfl) ?_
        simp only [List.take_succ_cons, List.take_zero, List.drop_succ_cons, List.drop_zero]
        change wpStill _ _ w5.drew _ _ _
        repeat still_step
        refine wpStill_nil ?_
        change wpList _ _ _ _ _ w5.drew
        go_wp2
        rw [(by rw [hL] : Value.slice (some ⟨gd0, 0, none⟩) L vdc = .slice (some ⟨gd0, 0, none⟩) data.length vdc)]
        go_roundg (M - (j + 1))
        case measure => have := hE.out; omega
        case rel => exact ⟨j + 1, _, by show _ = _; have := hE.out; omega, by omega, by go_num, HNX.out.below (Below.refl _ _).drew⟩
    · obtain rfl : j = M := by omega
      clear hlt hE
      have k5 : wr.cell? ⟨D, 5, none⟩ = some (.bool G'.off) := HK.out.disk.cell 5
      have k6 : wr.cell? ⟨D, 6, none⟩ = some (.int .i64 (G'.crash : Int)) := HK.out.disk.cell 6
      have g5 := HK.out.disk.fro 5
      have g6 := HK.out.disk.fro 6
      go_wp2
      go_end0
      obtain ⟨hturn, hownw, _, _, _⟩ := HTW.out _ _ _ HK.out
      have hds := (HK.out.disk.set 5 (.bool false) { G' with off := false } rfl fun hp => ⟨hp.cur, hp.dur, hp.trees, hp.row, hp.steps, hp.files, hp.inj, hp.bytes, hp.rows⟩).set 6 (.int .i64 0) { G' with off := false, crash := 0 } rfl fun hp => ⟨hp.cur, hp.dur, hp.trees, hp.row, hp.steps, hp.files, hp.inj, hp.bytes, hp.rows⟩
      refine ⟨rfl, gd', F, dl, dx, _, HAP.out, HPE.out, HLI.out, ?_, hds, ?_, hownw⟩
      · have hs := HK.out.same
        rw [HPS.out, HM.out]
        rw [← HG2.out] at hs
        obtain ⟨gc, gd, ptr, pfs, bvs, svs, steps, nv, cap, used, off, crash⟩ := G'
        simp only [DiskG.mk.injEq, DiskG.woken] at hs
        simp only [DiskG.mk.injEq]
        obtain ⟨e1, e2, e3, e9, _, _, e4, e5, e6, e10, e7, e8⟩ := hs
        simp [e1, e2, e3, e4, e5, e6, e9, e10]
      · exact (hturn.set _ _ (fun _ => .inl rfl)).set _ _ (fun _ => .inl rfl)

end Go.Proofs.YtanbmlikfhcpoaaDoor.Disk

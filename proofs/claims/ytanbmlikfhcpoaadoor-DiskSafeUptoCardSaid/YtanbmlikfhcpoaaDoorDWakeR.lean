/-
  The Restart of wakes. Own text.
-/
import Derived.Test.YtanbmlikfhcpoaaDoorDWakeP
namespace Go.Proofs.YtanbmlikfhcpoaaDoor.Disk
open Go.RowKit Go Go.Proofs.YtanbmlikfhcpoaaDoor.Base Go.Proofs.YtanbmlikfhcpoaaDoor.Map

def p5 : PF := ⟨[120, 121, 122, 117, 118], [.add 2]⟩
def p6 : PF := ⟨[120, 121, 122, 117, 0], []⟩
theorem keep56 : pfKeep [1] true 0 p5 = p6 := by rfl

theorem kept56 {g : TreeG} (h : oneT g) : keptN g [1] true [lst aN] [p5] 1 = ([p6], 5) := by
  unfold keptN
  have e : ([lst aN].getD 0 []).toArray = (lst aN).toArray := rfl
  rw [e, bytes_lst, h.file]
  simp only [keptN, List.modify_cons, keep56]
  rfl

theorem wk_restart {w0 w : World} {D : Nat} {G : DiskG} {E : Nat → Addr} (he : Env w0 E) (h8 : 8 ≤ w0.heap.size) (h : Own w0 w D G) (hs : St G p5 5) (vd : Value) (hda : w.ownsRow 0 3 1 vd 1 [.int .i64 1]) :
    Calls Tryd.prog 11 #[.pointer (some ⟨D, 0, none⟩), .int .i64 0, vd, .bool true] w fun r w' => r = .returned (.tuple #[]) ∧ ∃ G', Own w0 w' D G' ∧ St G' p6 5 := by
  have hn : G.nsteps = [] := by unfold DiskG.nsteps; rw [hs.steps]; rfl
  have := restart_any h.disk (h.env he) (fun k hk hh => by have := h.own k hh; omega) (by rw [hs.steps]; decide) (fun j hj => by rw [hs.steps] at hj; cases hj) 0 (by unfold inI; omega) [1] vd hda (by decide) (fun x hx => by simp at hx; subst hx; unfold inI; omega) true 10 (by decide)
    (fun p hp => by
      rw [hs.pfs] at hp
      simp at hp
      subst hp
      exact ⟨⟨⟨by decide, by decide⟩, by decide, ⟨by decide, by decide⟩⟩, by decide, by decide⟩)
    (fun gm hgm => by
      rw [hn] at hgm
      have : gm = G.gd := by simpa [AppAll] using hgm
      subst this
      obtain ⟨fm, b, hg⟩ := hs.gd
      rw [hg, hs.pfs]
      refine ⟨⟨fun x hx => ?_, fun x hx p hp => ?_⟩, by simp [allPaths, pathsOf]⟩
      · simp at hx; subst hx
        exact ⟨(by unfold noSl; decide : noSl ByteArray.empty), (by decide : ByteArray.empty.size < 1000)⟩
      · simp at hx; subst hx
        simp at hp; subst hp
        exact ⟨by unfold noSl; decide, by decide, by decide⟩)
  refine this.mono fun r w' ⟨h1, gd', F, dl, dx, G', hap, hper, hlike, hG, hd, ht, hnew⟩ => ?_
  refine ⟨h1, G', h.step hd ht hnew, ?_⟩
  rw [hn] at hap
  have hgd : gd' = G.gd := by simpa [AppAll] using hap
  subst hgd
  obtain ⟨fm, b, hg⟩ := hs.gd
  rw [hg] at hper
  have hdx := List.perm_singleton.1 hper
  subst hdx
  have hdl : ∃ b', dl = [⟨ByteArray.empty, b', [(aN, 0)]⟩] := by
    unfold likeDs at hlike
    obtain ⟨x, rfl⟩ := List.length_eq_one_iff.1 (by have := congrArg List.length hlike; simpa using this)
    obtain ⟨n', b', f'⟩ := x
    simp at hlike
    exact ⟨b', by rw [hlike.1, hlike.2]⟩
  obtain ⟨b', rfl⟩ := hdl
  have hps : sorted (allPaths [⟨ByteArray.empty, b', [(aN, 0)]⟩]) = [lst aN] := by
    have e : allPaths [⟨ByteArray.empty, b', [(aN, 0)]⟩] = [lst aN] := by
      simp [allPaths, pathsOf, pathOf]
    rw [e]
    unfold sorted
    exact List.mergeSort_singleton _
  rw [hps, hs.pfs] at hG
  have hk := kept56 (g := ⟨some F, [⟨ByteArray.empty, b', [(aN, 0)]⟩]⟩) ⟨F, b', rfl⟩
  simp only [List.length_cons, List.length_nil, Nat.zero_add] at hG
  rw [hk] at hG
  rw [hG]
  exact ⟨⟨F, b', rfl⟩, ⟨fm, b, hg⟩, rfl, rfl, hs.cap, rfl, rfl, rfl⟩

end Go.Proofs.YtanbmlikfhcpoaaDoor.Disk

/-
  Restart: what is left. Own text.
-/
import Derived.Test.YtanbmlikfhcpoaaDoorDKept
import Derived.Test.YtanbmlikfhcpoaaDoorDFiled
namespace Go.Proofs.YtanbmlikfhcpoaaDoor.Disk
open Go.RowKit Go Go.Proofs.YtanbmlikfhcpoaaDoor.Base Go.Proofs.YtanbmlikfhcpoaaDoor.Map

theorem Cloning.tree {w wr : World} {ptr : Nat → Nat} {F : Nat} {dl : List DirG} (h : Cloning w wr ptr F dl) : TreeAt wr ptr ⟨some F, dl⟩ := by
  refine ⟨fun hh => (by cases hh), fun fm hh => ?_, h.dirs, ?_⟩
  · injection hh with hh
    subst hh
    exact h.top
  · unfold TreeG.blocks
    simp only [Option.toList_some, List.cons_append, List.nil_append, List.nodup_cons]
    refine ⟨fun hh => ?_, h.apart⟩
    obtain ⟨x, hx, e⟩ := List.mem_map.1 hh
    exact (h.new x hx).2 e

theorem setD {S : Nat → Prop} {w w' : World} (h : Turn S w w') (D i : Nat) (v : Value) : Turn (fun q => q = D ∨ S q) w (w'.setCell ⟨D, i, none⟩ v) :=
  (h.mono (fun _ _ hh => Or.inr hh)).set _ _ (fun _ => Or.inl rfl)

theorem modify_set {α : Type} (l : List α) (k : Nat) (f : α → α) (hk : k < l.length) : l.modify k f = l.set k (f (l[k]'hk)) := by
  refine List.ext_getElem? fun i => ?_
  rw [List.getElem?_modify, List.getElem?_set]
  by_cases h : k = i
  · subst h; simp [hk]
  · simp [h]

theorem DiskAt.recloned {w w' : World} {D : Nat} {G : DiskG} {F : Nat} {dl : List DirG} (h : DiskAt w D G) (hc : Cloning w w' G.ptr F dl) : DiskAt (w'.setCell ⟨D, 0, none⟩ (.map (some F))) D { G with gc := ⟨some F, dl⟩ } := by
  have h' := h.below hc.below
  refine h'.set 0 (.map (some F)) _ rfl fun hp => ⟨hc.tree, hp.dur, fun b hb hb2 => ?_, hp.row, hp.steps, hp.files, hp.inj, hp.bytes, hp.rows⟩
  have h1 := h.parts.dur.lt b hb2
  have h2 := hc.base
  unfold TreeG.blocks at hb
  simp only [Option.toList_some, List.cons_append, List.nil_append, List.mem_cons, List.mem_map] at hb
  rcases hb with rfl | ⟨x, hx, rfl⟩
  · omega
  · have := (h.parts.dur.lt _ hb2); have := (hc.new x hx).1; omega

theorem row_at {w : World} {e : TypeId} {v : Value} {n : Nat} {xs : List Value} (h : w.ownsRow 0 e 1 v n xs) (j : Nat) (hj : j < n) : ∃ g cap, v = .slice (some ⟨g, 0, none⟩) n cap ∧ g < w.heap.size ∧ w.cell? ⟨g, j, none⟩ = xs[j]? := by
  rcases h.2 with ⟨_, h0⟩ | ⟨g, cap, cur, rfl, h1, h2, _⟩
  · omega
  · refine ⟨g, cap, rfl, (Array.getElem?_eq_some_iff.1 h2).1, ?_⟩
    have hl : j < xs.length := by have := h.1; omega
    have := h.cells (g := g) rfl j _ (List.getElem?_eq_getElem hl)
    rw [Go.WideShapes.add_plain, Nat.zero_add] at this
    rw [this, List.getElem?_eq_getElem hl]

def ints (l : List Int) : List Value := l.map fun x => .int .i64 x

/-- a Restart under way: the first paths have had their turn -/
structure Keeping (w : World) (D : Nat) (G2 : DiskG) (data : List Int) (zeros : Bool) (ps : List (List UInt8)) (vps vd : Value) (wr : World) (j : Nat) (G' : DiskG) : Prop where
  disk : DiskAt wr D G'
  same : G' = { G2 with pfs := (keptN G2.gc data zeros ps G2.pfs j).1, used := (keptN G2.gc data zeros ps G2.pfs j).2, bvs := G'.bvs, svs := G'.svs }
  row : wr.ownsRow 0 9 1 vps ps.length (ps.map encStr)
  data : wr.ownsRow 0 3 1 vd data.length (ints data)
  turn : Turn (G2.own D) w wr
  own : ∀ k, G'.own D k → G2.own D k ∨ w.heap.size ≤ k

theorem Keeping.len {w : World} {D : Nat} {G2 : DiskG} {data : List Int} {zeros : Bool} {ps : List (List UInt8)} {vps vd : Value} {wr : World} {j : Nat} {G' : DiskG} (h : Keeping w D G2 data zeros ps vps vd wr j G') : G'.pfs.length = G2.pfs.length := by
  rw [h.same]; exact keptN_length _ _ _ _ _ _

theorem Keeping.below {w : World} {D : Nat} {G2 : DiskG} {data : List Int} {zeros : Bool} {ps : List (List UInt8)} {vps vd : Value} {wr w3 : World} {j : Nat} {G' : DiskG} (h : Keeping w D G2 data zeros ps vps vd wr j G') (hb : Below wr.heap.size wr w3) : Keeping w D G2 data zeros ps vps vd w3 j G' :=
  ⟨h.disk.below hb, h.same, row_turn h.row (Turn.of_below (S := fun _ => False) hb) (fun _ _ h => h), row_turn h.data (Turn.of_below (S := fun _ => False) hb) (fun _ _ h => h), h.turn.trans (S' := fun _ => False) (Turn.of_below hb) (fun _ _ h => h.elim), h.own⟩

theorem Keeping.next {w : World} {D : Nat} {G2 : DiskG} {data : List Int} {zeros : Bool} {ps : List (List UInt8)} {vps vd : Value} {wr : World} {j : Nat} {G' : DiskG} (h : Keeping w D G2 data zeros ps vps vd wr j G')
    {k : Nat} (hk : fileOf G2.gc ⟨(ps.getD j []).toArray⟩ = some k) (hkl : k < G'.pfs.length) {w3 : World} {bv' : Value} (hf : FileAt w3 (G'.ptr k) bv' (.slice none 0 0) (pfKeep data zeros j (G'.pfs[k]'hkl)))
    (ht : Turn (fun q => q = G'.ptr k ∨ (G'.bvs k).ownBlock = some q) wr w3) (hb : bv'.ownBlock = (G'.bvs k).ownBlock ∨ ∃ q, bv'.ownBlock = some q ∧ wr.heap.size ≤ q) :
    Keeping w D G2 data zeros ps vps vd (w3.setCell ⟨D, 4, none⟩ (.int .i64 ((G'.used + (pfKeep data zeros j (G'.pfs[k]'hkl)).bytes.length : Nat) : Int))) (j + 1) { G'.file k (pfKeep data zeros j (G'.pfs[k]'hkl)) bv' (.slice none 0 0) with used := G'.used + (pfKeep data zeros j (G'.pfs[k]'hkl)).bytes.length } := by
  have hfk := h.disk.parts.files k hkl
  have hts : Turn (fileOwn (G'.ptr k) (G'.bvs k) (G'.svs k)) wr w3 := ht.mono fun q _ hh => by
    rcases hh with hh | hh
    · exact .inl hh
    · exact .inr (.inl hh)
  have hl1 : locOk wr (G'.bvs k) bv' := by rcases hb with h1 | h1; exact .inl h1; exact .inr (.inr h1)
  have hl2 : locOk wr (G'.svs k) (.slice none 0 0) := .inr (.inl rfl)
  have hd := h.disk.filed hkl hf hts hl1 hl2
  have hown : ∀ q, (G'.file k (pfKeep data zeros j (G'.pfs[k]'hkl)) bv' (.slice none 0 0)).own D q → G'.own D q ∨ wr.heap.size ≤ q := fun q hq => own_file hkl hl1 hl2 hq
  have hrk : ∀ {e : TypeId} {v : Value} {n : Nat} {xs : List Value}, wr.ownsRow 0 e 1 v n xs → e ≠ 58 → e ≠ 5 → e ≠ 81 → e ≠ 46 → (w3.setCell ⟨D, 4, none⟩ (.int .i64 ((G'.used + (pfKeep data zeros j (G'.pfs[k]'hkl)).bytes.length : Nat) : Int))).ownsRow 0 e 1 v n xs := by
    intro e v n xs hr n1 n2 n3 n4
    refine row_turn hr (setD hts D 4 _) fun q hq hh => ?_
    rcases hh with hh | hh
    · subst hh; exact (row_kind hr hq).ne h.disk.kind n4 rfl
    · rcases hfk.kinds hh with h1 | h1 | h1
      · exact (row_kind hr hq).ne h1 n1 rfl
      · exact (row_kind hr hq).ne h1 n2 rfl
      · exact (row_kind hr hq).ne h1 n3 rfl
  refine ⟨?_, ?_, hrk h.row (by decide) (by decide) (by decide) (by decide), hrk h.data (by decide) (by decide) (by decide) (by decide), ?_, ?_⟩
  · exact hd.set 4 _ _ rfl fun hp => ⟨hp.cur, hp.dur, hp.trees, hp.row, hp.steps, hp.files, hp.inj, hp.bytes, hp.rows⟩
  · have hs := h.same
    have hp : G'.pfs = (keptN G2.gc data zeros ps G2.pfs j).1 := by rw [hs]
    have hu : G'.used = (keptN G2.gc data zeros ps G2.pfs j).2 := by rw [hs]
    have e : keptN G2.gc data zeros ps G2.pfs (j + 1) = (G'.pfs.set k (pfKeep data zeros j (G'.pfs[k]'hkl)), G'.used + (pfKeep data zeros j (G'.pfs[k]'hkl)).bytes.length) := by
      rw [keptN]
      simp only [hk]
      rw [← hp, ← hu]
      have e1 : G'.pfs.modify k (pfKeep data zeros j) = G'.pfs.set k (pfKeep data zeros j (G'.pfs[k]'hkl)) := modify_set _ _ _ hkl
      rw [e1]
      unfold lenP
      simp [hkl]
    rw [e]
    obtain ⟨gc, gd, ptr, pfs, bvs, svs, steps, nv, cap, used, off, crash⟩ := G'
    obtain ⟨gc2, gd2, ptr2, pfs2, bvs2, svs2, steps2, nv2, cap2, used2, off2, crash2⟩ := G2
    simp only [DiskG.mk.injEq] at hs
    simp only [DiskG.file, DiskG.mk.injEq]
    obtain ⟨e1, e2, e3, _, _, _, e4, e5, e6, _, e7, e8⟩ := hs
    simp [e1, e2, e3, e4, e5, e6, e7, e8]
  · refine h.turn.trans (setD hts D 4 _) fun q hq hh => ?_
    have : G'.own D q := by
      rcases hh with hh | hh
      · exact .inl hh
      · exact .inr (.inr (.inr (.inr (.inr ⟨k, hkl, hh⟩))))
    rcases h.own q this with h1 | h1
    · exact h1
    · omega
  · intro q hq
    rcases hown q hq with h1 | h1
    · exact h.own q h1
    · have := h.turn.size; exact .inr (by omega)

theorem Keeping.cell4 {w : World} {D : Nat} {G2 : DiskG} {data : List Int} {zeros : Bool} {ps : List (List UInt8)} {vps vd : Value} {wr : World} {j : Nat} {G' : DiskG} (h : Keeping w D G2 data zeros ps vps vd wr j G')
    {k : Nat} (hkl : k < G'.pfs.length) {w3 : World} {bv' : Value} {p : PF} (hf : FileAt w3 (G'.ptr k) bv' (.slice none 0 0) p)
    (ht : Turn (fun q => q = G'.ptr k ∨ (G'.bvs k).ownBlock = some q) wr w3) (hb : bv'.ownBlock = (G'.bvs k).ownBlock ∨ ∃ q, bv'.ownBlock = some q ∧ wr.heap.size ≤ q) :
    w3.cell? ⟨D, 4, none⟩ = some (.int .i64 (G'.used : Int)) ∧ w3.frozen? ⟨D, 4, none⟩ = false := by
  have hts : Turn (fileOwn (G'.ptr k) (G'.bvs k) (G'.svs k)) wr w3 := ht.mono fun q _ hh => by
    rcases hh with hh | hh
    · exact .inl hh
    · exact .inr (.inl hh)
  have hd := h.disk.filed hkl hf hts (by rcases hb with h1 | h1; exact .inl h1; exact .inr (.inr h1)) (.inr (.inl rfl))
  exact ⟨hd.cell 4, hd.fro 4⟩

end Go.Proofs.YtanbmlikfhcpoaaDoor.Disk

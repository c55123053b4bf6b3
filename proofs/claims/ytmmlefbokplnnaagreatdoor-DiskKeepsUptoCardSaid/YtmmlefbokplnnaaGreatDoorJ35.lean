/-
  The texts KList, joined. Own text.
-/
import Derived.Test.YtmmlefbokplnnaaGreatDoorJ28
import Derived.Test.YtmmlefbokplnnaaGreatDoorJ07
import Derived.Test.YtmmlefbokplnnaaGreatDoorJ30
import Derived.Test.YtmmlefbokplnnaaGreatDoorJ34
set_option linter.unusedVariables false
set_option linter.unusedSimpArgs false
namespace Go.Proofs.YtmmlefbokplnnaaGreatDoor.Disk
open Go.RowKit Go Go.Proofs.YtmmlefbokplnnaaGreatDoor.Base Go.Proofs.YtmmlefbokplnnaaGreatDoor.Map
open Go.Proofs.YtmmlefbokplnnaaGreatDoor.Lab (cmpS cmpS_ord)

def toG (e : Ent) : EntG := ⟨e.name, e.dir, (e.size : Int)⟩

theorem inside_base {p d : ByteArray} (hp : isPath p = true) (hi : inside p d = true) : p.extract (d.size + 1) p.size = baseOf p := by
  obtain ⟨h1, h2⟩ := (inside_iff hp).1 hi
  rcases path_cases hp with ⟨hs, _, h3, _⟩ | ⟨hs, _, _, _, _⟩
  · rw [h3] at h1; rw [h1] at h2; exact absurd rfl h2
  · have e : d.size = sl p := by
      rw [h1]; unfold dirOf
      rw [if_pos hs, ByteArray.size_extract]
      omega
    unfold baseOf
    rw [if_pos hs, e]

theorem split_perm {α β : Type} (f : α → Option β) (pf pd : α → Bool) (g1 g2 : α → β) : ∀ l : List α, (∀ t ∈ l, (pf t = true ∧ pd t = false ∧ f t = some (g1 t)) ∨ (pf t = false ∧ pd t = true ∧ f t = some (g2 t)) ∨ (pf t = false ∧ pd t = false ∧ f t = none)) → (l.filterMap f).Perm ((l.filter pf).map g1 ++ (l.filter pd).map g2)
  | [], _ => by simp
  | t :: l, h => by
    have ih := split_perm f pf pd g1 g2 l fun x hx => h x (List.mem_cons_of_mem _ hx)
    rcases h t (List.mem_cons_self ..) with ⟨h1, h2, h3⟩ | ⟨h1, h2, h3⟩ | ⟨h1, h2, h3⟩
    · rw [List.filterMap_cons_some h3, List.filter_cons_of_pos h1, List.filter_cons_of_neg (by rw [h2]; simp), List.map_cons, List.cons_append]
      exact ih.cons _
    · rw [List.filterMap_cons_some h3, List.filter_cons_of_neg (by rw [h1]; simp), List.filter_cons_of_pos h2, List.map_cons]
      exact (ih.cons _).trans List.perm_middle.symm
    · rw [List.filterMap_cons_none h3, List.filter_cons_of_neg (by rw [h1]; simp), List.filter_cons_of_neg (by rw [h2]; simp)]
      exact ih

section
variable {G : DiskG} {m : M} {S : Nat}

theorem Rel.ents_perm (hr : Rel G m S) (d : ByteArray) (hd : d.size = 0 ∨ (isName d = true ∧ isAt m.things d = 2)) : (entsG G d).Perm ((ents m d).map toG) := by
  have hfiles : ∀ x, lookDir G.gc d = some x → (filesE G x.files).Perm ((filesIn m.things d).map fun (t : Thing) => (⟨baseOf t.path, false, ((lenAt m.files t.num : Nat) : Int)⟩ : EntG)) := fun x hx => by
    unfold filesE
    refine ((files_perm hr.cur hr.wfc hx).map _).trans (List.Perm.of_eq ?_)
    rw [List.map_map]
    apply List.map_congr_left
    intro t ht
    obtain ⟨h1, h2, _⟩ := mem_filesIn.1 ht
    simp only [Function.comp, nameNum]
    rw [lenAt_eq, hr.nowl (hr.wfc.lt t h1 h2)]
  have hmatch : (match lookDir G.gc d with | none => [] | some x => filesE G x.files).Perm ((filesIn m.things d).map fun (t : Thing) => (⟨baseOf t.path, false, ((lenAt m.files t.num : Nat) : Int)⟩ : EntG)) := by
    cases hl : lookDir G.gc d with
    | none => rw [files_none hr.cur hl]; simp
    | some x => exact hfiles x hl
  unfold entsG
  by_cases h0 : d.size = 0
  · rw [if_pos h0]
    have he := size_zero h0
    have hsp := split_perm (entF m d) (fun t => !t.dir && decide (dirOf t.path = d)) (fun t => t.dir) (fun t => (⟨baseOf t.path, false, lenAt m.files t.num⟩ : Ent)) (fun t => (⟨t.path, true, 0⟩ : Ent)) m.things (fun t ht => by
      unfold entF
      rw [if_pos h0]
      cases hd2 : t.dir
      · have hp := (hr.wfc.file t ht hd2).1
        rcases path_cases hp with ⟨hs, h1, h2, h3⟩ | ⟨hs, h1, h2, h3, h4⟩
        · refine .inl ⟨by simp [h2, he], rfl, ?_⟩
          rw [if_neg hs, h3]; simp
        · refine .inr (.inr ⟨?_, rfl, by rw [if_pos hs]⟩)
          have : dirOf t.path ≠ d := fun e => by
            have h6 := name_size h1
            rw [e, h0] at h6
            omega
          simp [this]
      · have hp := hr.wfc.dir t ht hd2
        refine .inr (.inl ⟨by simp, rfl, ?_⟩)
        rw [if_neg (noSl_sl (name_noSl hp))]; simp)
    have hdirs : (dirsE G.gc.ds).Perm ((dirsIn m.things).map fun t => (⟨t.path, true, 0⟩ : EntG)) := by
      have h1 := (dirs_perm hr.cur hr.wfc).map fun n => (⟨n, true, 0⟩ : EntG)
      rw [List.map_map, List.map_map] at h1
      exact h1
    have h2 := (hmatch.append hdirs)
    refine h2.trans ?_
    rw [ents_eq]
    refine List.Perm.trans (List.Perm.of_eq ?_) (hsp.map toG).symm
    rw [List.map_append, List.map_map, List.map_map]
    rfl
  · rw [if_neg h0, List.append_nil]
    rcases hd with hd | ⟨hn, hx⟩
    · exact absurd hd h0
    · refine hmatch.trans (List.Perm.of_eq ?_)
      rw [ents_eq]
      have : ∀ l : List Thing, (∀ t ∈ l, t ∈ m.things) → (filesIn l d).map (fun t => (⟨baseOf t.path, false, ((lenAt m.files t.num : Nat) : Int)⟩ : EntG)) = (l.filterMap (entF m d)).map toG := by
        intro l
        induction l with
        | nil => intro _; rfl
        | cons t r ih =>
          intro hm
          have ih := ih fun x hx => hm x (List.mem_cons_of_mem _ hx)
          have ht := hm t (List.mem_cons_self ..)
          have hp := hr.wfc.anyPath ht
          cases hi : inside t.path d
          · have he : entF m d t = none := by unfold entF; rw [if_neg h0, hi]; rfl
            have hf : filesIn (t :: r) d = filesIn r d := by
              unfold filesIn
              rw [List.filter_cons_of_neg]
              intro hh
              simp only [Bool.and_eq_true, Bool.not_eq_true', decide_eq_true_eq] at hh
              have := (inside_iff hp).2 ⟨hh.2.symm, h0⟩
              rw [hi] at this; cases this
            rw [hf, List.filterMap_cons_none he]
            exact ih
          · obtain ⟨h1, h2, _, _⟩ := inside_dir hr.wfc ht hi
            have he : entF m d t = some ⟨baseOf t.path, false, lenAt m.files t.num⟩ := by
              unfold entF
              rw [if_neg h0, if_pos hi, inside_base hp hi, h1]; rfl
            have hf : filesIn (t :: r) d = t :: filesIn r d := by
              unfold filesIn
              rw [List.filter_cons_of_pos]
              simp [h1, h2]
            rw [hf, List.filterMap_cons_some he, List.map_cons, List.map_cons, ih]
            rfl
      exact this m.things fun t ht => ht

theorem Rel.ents_names (hr : Rel G m S) (d : ByteArray) : ((ents m d).map (·.name)).Nodup := by
  rw [ents_eq]
  have key : ∀ l : List Thing, (∀ t ∈ l, t ∈ m.things) → (l.map (·.path)).Nodup → ((l.filterMap (entF m d)).map (·.name)).Nodup := by
    intro l
    induction l with
    | nil => intro _ _; exact List.nodup_nil
    | cons t r ih =>
      intro hm hn
      rw [List.map_cons, List.nodup_cons] at hn
      have ih := ih (fun x hx => hm x (List.mem_cons_of_mem _ hx)) hn.2
      cases he : entF m d t with
      | none => rw [List.filterMap_cons_none he]; exact ih
      | some e =>
        rw [List.filterMap_cons_some he, List.map_cons, List.nodup_cons]
        refine ⟨fun hh => ?_, ih⟩
        obtain ⟨e2, he2, hee⟩ := List.mem_map.1 hh
        obtain ⟨u, hu, hue⟩ := List.mem_filterMap.1 he2
        have ht := hm t (List.mem_cons_self ..)
        have hu2 := hm u (List.mem_cons_of_mem _ hu)
        have hpt := hr.wfc.anyPath ht
        have hpu := hr.wfc.anyPath hu2
        have hsame : u.path = t.path := by
          unfold entF at he hue
          by_cases h0 : d.size = 0
          · rw [if_pos h0] at he hue
            split at he
            · cases he
            · split at hue
              · cases hue
              · injection he with he; injection hue with hue
                rw [← he, ← hue] at hee
                exact hee
          · rw [if_neg h0] at he hue
            by_cases hit : inside t.path d = true
            · by_cases hiu : inside u.path d = true
              · rw [if_pos hit] at he
                rw [if_pos hiu] at hue
                injection he with he; injection hue with hue
                rw [← he, ← hue] at hee
                simp only at hee
                rw [inside_base hpt hit, inside_base hpu hiu] at hee
                exact path_ext hpu hpt ((((inside_iff hpu).1 hiu).1).symm.trans ((inside_iff hpt).1 hit).1) hee
              · rw [if_neg hiu] at hue; cases hue
            · rw [if_neg hit] at he; cases he
        exact hn.1 (List.mem_map.2 ⟨u, hu, hsame⟩)
  exact key m.things (fun t ht => ht) hr.wfc.paths

theorem Rel.listCode (hr : Rel G m S) (d : ByteArray) : listCodeG G d = m.listCode d := by
  unfold listCodeG M.listCode
  rw [hr.off]
  cases ho : m.off
  · simp only [Bool.false_eq_true, if_false]
    by_cases h0 : d.size = 0
    · have he := size_zero h0
      have hf : fileOf G.gc d = none := by
        cases hf : fileOf G.gc d with
        | none => rfl
        | some j =>
          obtain ⟨t, h1, h2, h3, h4, h5⟩ := (hr.cur.files _ _ _).1 ((fileOf_iff hr.cur.ok).1 hf)
          have hb := path_base (hr.wfc.file t h1 h2).1
          rw [h4, he] at hb
          have := name_size hb
          rw [baseOf_noSl noSl_empty] at this
          have h9 : (ByteArray.empty).size = 0 := rfl
          omega
      have hfo : isFolderG G.gc d = true := by unfold isFolderG; simp [h0]
      rw [hf, hfo]
      simp [h0]
    · cases hn : isName d
      · simp [h0]
      · have hp := name_path hn
        rw [hr.folder hp]
        have h1 := hr.cur.fileNone hr.wfc hp
        rcases isAt_lt (l := m.things) d with h2 | h2 | h2
        · have : ¬ (fileOf G.gc d).isSome = true := fun hh => by have := h1.1 hh; omega
          simp [h0, h2, this]
        · have := h1.2 h2
          simp [h0, h2, this]
        · have : ¬ (fileOf G.gc d).isSome = true := fun hh => by have := h1.1 hh; omega
          simp [h0, h2, this]
  · simp

theorem Rel.list_eq (hr : Rel G m S) (d : ByteArray) (hc : m.listCode d = 0) {es : List EntG} (hp : es.Perm (entsG G d)) (hs : Rising es) : es = (insL (ents m d)).map toG := by
  have hd : d.size = 0 ∨ (isName d = true ∧ isAt m.things d = 2) := by
    by_cases h0 : d.size = 0
    · exact .inl h0
    · refine .inr ?_
      unfold M.listCode at hc
      cases ho : m.off
      · rw [ho] at hc
        simp only [Bool.false_eq_true, if_false] at hc
        rw [if_neg h0] at hc
        cases hn : isName d
        · rw [hn] at hc; simp at hc
        · rw [hn] at hc
          simp only [Bool.true_eq_false, if_false] at hc
          rcases isAt_lt (l := m.things) d with h2 | h2 | h2
          · rw [h2] at hc; simp at hc
          · rw [h2] at hc; simp at hc
          · exact ⟨rfl, h2⟩
      · rw [ho] at hc; simp at hc
  have h1 := hp.trans (hr.ents_perm d hd)
  have h2 : es.Perm ((insL (ents m d)).map toG) := h1.trans ((insL_perm _).map toG).symm
  have ha := insL_asc (hr.ents_names d)
  have ha2 : ((insL (ents m d)).map toG).Pairwise fun x y => cmpS x.n y.n < 0 := by
    rw [List.pairwise_map]
    exact ha
  have hnd : (es.map (·.n)).Nodup := by
    refine ((h1.map (·.n)).nodup_iff).2 ?_
    rw [List.map_map]
    exact hr.ents_names d
  have he : es.Pairwise fun x y => cmpS x.n y.n < 0 := by
    rw [List.pairwise_iff_getElem]
    intro i j hi hj hij
    have h3 := hs i j hij hj
    rw [getElem!_pos es j hj, getElem!_pos es i hi] at h3
    unfold cmpE at h3
    have h4 := cmpS_ord.swap es[i].n es[j].n
    have h5 : cmpS es[i].n es[j].n ≠ 0 := fun e => by
      have e2 := cmpS_ord.eq _ _ e
      have := List.pairwise_iff_getElem.1 hnd i j (by simpa using hi) (by simpa using hj) hij
      simp only [List.getElem_map] at this
      exact this e2
    omega
  exact asc_unique (fun x y h h' => by have := cmpS_ord.swap x.n y.n; omega) he ha2 h2

end
end Go.Proofs.YtmmlefbokplnnaaGreatDoor.Disk

/-
  What each step of the law DiskSafe makes of the disk as plain data. Own text, without the program's walks.
-/
import Derived.Test.YtanbmlikfhcpoaaDoorDSafeP
import Derived.Test.YtanbmlikfhcpoaaDoorDSafeT
import Derived.Test.YtanbmlikfhcpoaaDoorDMkdir
import Derived.Test.YtanbmlikfhcpoaaDoorDWakeR
namespace Go.Proofs.YtanbmlikfhcpoaaDoor.Disk
open Go.RowKit Go Go.Proofs.YtanbmlikfhcpoaaDoor.Base Go.Proofs.YtanbmlikfhcpoaaDoor.Map

/-- the files of the law's directory, m of them -/
structure Have (G : DiskG) (m : Nat) (P : Nat → PF → Prop) (T : Nat) : Prop where
  shape : Shape G.gc m
  len : G.pfs.length = m
  file : ∀ j, j < m → P j (pfAt G j)
  cap : G.cap = 67108864
  used : G.used = T
  off : G.off = false
  crash : G.crash = 0
structure Fresh (G : DiskG) (m : Nat) : Prop where
  gd : G.gd.ds = []
  steps : G.nsteps = stN m
structure Firm (G : DiskG) (m : Nat) : Prop where
  gd : Shape G.gd m
  steps : G.steps = []

theorem Shape.nums {g : TreeG} {n : Nat} (h : Shape g n) : numsIn g n := by
  obtain ⟨b, hd⟩ := h.dirs
  intro x hx p hp
  rw [hd] at hx
  rw [List.mem_singleton.1 hx] at hp
  obtain ⟨j, hj, rfl⟩ := List.mem_map.1 hp
  exact List.mem_range.1 hj

section
variable {G G' : DiskG} {m T : Nat} {P : Nat → PF → Prop}

theorem Have.mono (h : Have G m P T) {Q : Nat → PF → Prop} (hq : ∀ j p, j < m → P j p → Q j p) : Have G m Q T := ⟨h.shape, h.len, fun j hj => hq j _ hj (h.file j hj), h.cap, h.used, h.off, h.crash⟩
theorem Have.numsFresh (h : Have G m P T) (hf : Fresh G m) : NumsOk G := ⟨by rw [h.len]; exact h.shape.nums, fun x hx => (by rw [hf.gd] at hx; cases hx), fun x hx hk => by
    have hm : x.s ∈ stN m := by rw [← hf.steps]; exact List.mem_map.2 ⟨x, hx, rfl⟩
    rcases List.mem_cons.1 hm with e | hm
    · rw [e] at hk; cases hk
    · obtain ⟨j, hj, e⟩ := List.mem_map.1 hm
      rw [← e, h.len]
      exact List.mem_range.1 hj⟩
theorem Have.numsFirm (h : Have G m P T) (hf : Firm G m) : NumsOk G := ⟨by rw [h.len]; exact h.shape.nums, by rw [h.len]; exact hf.gd.nums, fun x hx => by rw [hf.steps] at hx; cases hx⟩

theorem Have.create (h : Have G m P T) (hm : m < 26) : createCode G (px m) = 0 := by
  obtain ⟨f1, f2, f3, _⟩ := px_facts m hm
  obtain ⟨s1, s2⟩ := h.shape.folder hm
  have s3 := h.shape.noFile (by omega) (Nat.le_refl m) hm
  unfold createCode existsG
  rw [h.off, f3, f1, s1, s2, s3, h.crash]
  rfl
theorem Have.open {i : Nat} (h : Have G m P T) (hm : m ≤ 26) (hi : i < m) : openCode G (px i) = 0 := by
  obtain ⟨f1, f2, f3, _⟩ := px_facts i (by omega)
  obtain ⟨s1, s2⟩ := h.shape.folder (show i < 26 by omega)
  unfold openCode
  rw [h.off, f3, s2, h.shape.file hm hi]
  rfl
theorem Have.append {i n : Nat} (h : Have G m P T) (hm : m ≤ 26) (hi : i < m) (hT : T + n ≤ 67108864) : appendCode G (px i) n = 0 := by
  unfold appendCode
  rw [h.open hm hi, h.cap, h.used, h.crash, if_neg (by simp), if_neg (by omega), if_neg (by decide)]
theorem Have.sync {i : Nat} (h : Have G m P T) (hm : m ≤ 26) (hi : i < m) : syncCode G (px i) = 0 := by
  unfold syncCode
  rw [h.open hm hi, h.crash]
  rfl
theorem Have.snames (h : Have G m P T) : syncNamesCode G = 0 := by
  unfold syncNamesCode
  rw [h.off, h.crash]
  rfl
theorem Have.text {i : Nat} (h : Have G m P T) (hm : m ≤ 26) (hi : i < m) : allText G (px i) = (pfAt G i).bytes := by
  unfold allText
  rw [if_pos (h.open hm hi), h.shape.file hm hi]
  rfl

theorem pfAt_set {i : Nat} {p : PF} (e : G'.pfs = G.pfs.set i p) (hi : i < G.pfs.length) (j : Nat) : pfAt G' j = if j = i then p else pfAt G j := by
  unfold pfAt
  rw [e]
  by_cases hj : j = i
  · subst hj; simp [List.getD, hi]
  · have : ¬ i = j := fun e => hj e.symm
    simp [List.getD, hj, this]

theorem Have.created {w : World} (h : Have G m P T) (hf : Fresh G m) (hm : m < 26) (hc : Created w G (px m) 0 G') : Have G' (m + 1) (fun j p => if j < m then P j p else p = ⟨[], []⟩) T ∧ Fresh G' (m + 1) := by
  rcases hc with ⟨hc, _⟩ | ⟨_, B, v, bs, _, g1, g2, g3, _, g5, _, _, g8, g9, g10, g11⟩
  · exact absurd rfl hc
  · rw [(px_facts m hm).1, (px_facts m hm).2.1, h.len] at g1
    have e5 : G'.pfs = G.pfs ++ [⟨[], []⟩] := g5
    refine ⟨⟨h.shape.put hm g1, by rw [e5, List.length_append, h.len]; rfl, fun j hj => ?_, g8.trans h.cap, g9.trans h.used, g10.trans h.off, by rw [g11, h.crash]⟩, ⟨by rw [g3]; exact hf.gd, ?_⟩⟩
    · by_cases hjm : j < m
      · have : pfAt G' j = pfAt G j := by
          unfold pfAt
          rw [e5]
          simp [List.getD, List.getElem?_append_left (show j < G.pfs.length by rw [h.len]; exact hjm)]
        rw [this, if_pos hjm]
        exact h.file j hjm
      · have e : j = m := by omega
        subst e
        rw [if_neg hjm]
        unfold pfAt
        rw [e5, List.getD, List.getElem?_append_right (by rw [h.len]; exact Nat.le_refl _), h.len, Nat.sub_self]
        rfl
    · rw [stN_succ, ← hf.steps]
      unfold DiskG.nsteps
      rw [g2, List.map_append]
      simp [crS, h.len]

theorem Have.filed {i T' : Nat} {p : PF} (h : Have G m P T) (hi : i < m) (e : G'.pfs = G.pfs.set i p) (e1 : G'.gc = G.gc) (e2 : G'.cap = G.cap) (e3 : G'.used = T') (e4 : G'.off = G.off) (e5 : G'.crash = 0) : Have G' m (fun j q => if j = i then q = p else P j q) T' := by
  have hl : i < G.pfs.length := by rw [h.len]; exact hi
  refine ⟨by rw [e1]; exact h.shape, by rw [e, List.length_set, h.len], fun j hj => ?_, e2.trans h.cap, e3, e4.trans h.off, e5⟩
  rw [pfAt_set e hl]
  by_cases hj2 : j = i
  · simp only [hj2, if_true]
  · simp only [if_neg hj2]
    exact h.file j hj
theorem Have.appended {i : Nat} {t : List Nat} (h : Have G m P T) (hm : m ≤ 26) (hi : i < m) (hc : Appended G (px i) t 0 G') : Have G' m (fun j q => if j = i then q = (pfAt G i).add t else P j q) (T + t.length) ∧ G'.gd = G.gd ∧ G'.steps = G.steps := by
  rcases hc with ⟨hc, _⟩ | ⟨_, k, bv, sv, hk, rfl⟩
  · exact absurd rfl hc
  · rw [h.shape.file hm hi] at hk
    injection hk with hk
    subst hk
    exact ⟨h.filed hi rfl rfl rfl (by rw [← h.used]) rfl (by show G.crash - 1 = 0; rw [h.crash]), rfl, rfl⟩
theorem Have.synced {i : Nat} (h : Have G m P T) (hm : m ≤ 26) (hi : i < m) (hc : Synced G (px i) 0 G') : Have G' m (fun j q => if j = i then q = ⟨(pfAt G i).bytes, []⟩ else P j q) T ∧ G'.gd = G.gd ∧ G'.steps = G.steps := by
  rcases hc with ⟨hc, _⟩ | ⟨_, k, hk, rfl⟩
  · exact absurd rfl hc
  · rw [h.shape.file hm hi] at hk
    injection hk with hk
    subst hk
    exact ⟨h.filed hi rfl rfl rfl h.used rfl (by show G.crash - 1 = 0; rw [h.crash]), rfl, rfl⟩
theorem Fresh.kept (h : Fresh G m) (e1 : G'.gd = G.gd) (e2 : G'.steps = G.steps) : Fresh G' m := ⟨by rw [e1]; exact h.gd, by unfold DiskG.nsteps; rw [e2]; exact h.steps⟩
theorem Firm.kept (h : Firm G m) (e1 : G'.gd = G.gd) (e2 : G'.steps = G.steps) : Firm G' m := ⟨by rw [e1]; exact h.gd, by rw [e2]; exact h.steps⟩
theorem Have.named (h : Have G m P T) (hf : Fresh G m) (hm : m ≤ 26) (hc : SyncedNames G 0 G') : Have G' m P T ∧ Firm G' m := by
  rcases hc with ⟨hc, _⟩ | ⟨_, gd', ha, rfl⟩
  · exact absurd rfl hc
  · rw [hf.steps] at ha
    exact ⟨⟨h.shape, h.len, h.file, h.cap, h.used, h.off, by show G.crash - 1 = 0; rw [h.crash]⟩, ⟨steps_shape hf.gd m hm _ ha, rfl⟩⟩
theorem Have.fits (hf : Fresh G m) (hm : m ≤ 26) : ∀ j (hj : j < G.steps.length) gm, AppAll (G.nsteps.take j) G.gd gm → Fits (G.steps[j]'hj).s gm := by
  intro j hj gm ha
  have hl : G.steps.length = (stN m).length := by rw [← hf.steps]; simp [DiskG.nsteps]
  have e : (G.steps[j]'hj).s = (stN m)[j]'(by omega) := by
    have : G.nsteps[j]'(by simpa [DiskG.nsteps] using hj) = (G.steps[j]'hj).s := by simp [DiskG.nsteps]
    rw [← this]
    simp only [hf.steps]
  rw [e]
  rw [hf.steps] at ha
  exact steps_fit hf.gd m hm j (by omega) gm ha

/-- the first directory -/
theorem mkdired {c : Int} (hc : (min (max c 0) 67108864).toNat = 67108864) (h : Mkdired (newG c) sx 0 G') : Have G' 0 P 0 ∧ Fresh G' 0 := by
  rcases h with ⟨h, _⟩ | ⟨_, fm, b, v, bs, g1, g2, g3, _, g5, _, _, g8, g9, g10, g11⟩
  · exact absurd rfl h
  · refine ⟨⟨⟨some fm, b, ?_⟩, by rw [g5]; rfl, fun j hj => by omega, by rw [g8]; exact hc, by rw [g9]; rfl, by rw [g10]; rfl, by rw [g11]; rfl⟩, ⟨by rw [g3]; rfl, ?_⟩⟩
    · rw [g1]; rfl
    · unfold DiskG.nsteps
      rw [g2]
      rfl

/-! ### what is safe -/

/-- a safe text in front, at most B bytes -/
structure Safe (f : Nat → List Nat) (B : Nat) (j : Nat) (p : PF) : Prop where
  front : Front (f j) p
  steps : p.steps.length ≤ 1
  ok : okB B p.bytes

theorem Safe.fresh {f : Nat → List Nat} {B j : Nat} (h : okB B (f j)) : Safe f B j ⟨f j, []⟩ := ⟨Front.fresh _, Nat.zero_le _, h⟩
theorem add_steps {p : PF} {t s : List Nat} (hf : Front t p) (h : p.steps.length ≤ 1) : (p.add s).steps.length ≤ 1 := by
  unfold PF.add
  simp only
  have hl : p.steps.reverse.length = p.steps.length := List.length_reverse
  cases hr : p.steps.reverse with
  | nil =>
    rw [hr] at hl
    have : p.steps = [] := List.eq_nil_of_length_eq_zero hl.symm
    simp [this]
  | cons a r =>
    obtain ⟨k, rfl⟩ := hf.adds a (List.mem_reverse.1 (by rw [hr]; simp))
    rw [hr] at hl
    simp only [List.length_reverse, List.length_cons] at hl ⊢
    omega
theorem Safe.add {f : Nat → List Nat} {B C j : Nat} {p : PF} (h : Safe f B j p) {t : List Nat} (ht : ∀ x ∈ t, x < 256) (hC : B + t.length ≤ C) : Safe f C j (p.add t) :=
  ⟨h.front.add t, add_steps h.front h.steps, by
    have e : (p.add t).bytes = p.bytes ++ t := rfl
    rw [e]
    refine ⟨by rw [List.length_append]; have := h.ok.1; omega, fun x hx => ?_⟩
    rcases List.mem_append.1 hx with hx | hx
    · exact h.ok.2 x hx
    · exact ht x hx⟩
theorem Safe.more {f : Nat → List Nat} {B C j : Nat} {p : PF} (h : Safe f B j p) (hC : B ≤ C) : Safe f C j p := ⟨h.front, h.steps, Nat.le_trans h.ok.1 hC, h.ok.2⟩
theorem Safe.units {f : Nat → List Nat} {B j : Nat} {p : PF} (h : Safe f B j p) : unitsOf p.steps ≤ B := by
  obtain ⟨e, h1, h2⟩ := h.front.bytes
  have := h.ok.1
  rw [h1, List.length_append] at this
  omega
theorem Safe.room {f : Nat → List Nat} {B j : Nat} {p : PF} (h : Safe f B j p) (hB : B < 549755813888) : p.bytes.length < 549755813888 ∧ p.steps.length < 1099511627776 ∧ ∀ k r, p.steps.reverse = .add k :: r → k < 1099511627776 := by
  refine ⟨by have := h.ok.1; omega, by have := h.steps; omega, fun k r hr => ?_⟩
  have hu := h.units
  have e : unitsOf p.steps = unitsOf p.steps.reverse := by unfold unitsOf; rw [List.map_reverse, List.sum_reverse]
  rw [e, hr, unitsOf_cons] at hu
  simp only [PStep.units] at hu
  omega

theorem Front.kept {t : List Nat} {p : PF} (h : ∃ e, Front (t ++ e) p) (n : Nat) (z : Bool) : ∃ e, Front (t ++ e) (p.keep n z) := by
  obtain ⟨e, h⟩ := h
  obtain ⟨e', h'⟩ := h.keep n z
  refine ⟨e ++ e', ?_⟩
  have hs : p.keep n z = ⟨t ++ (e ++ e'), []⟩ := by
    rw [← List.append_assoc, ← h']
    rfl
  rw [hs]
  exact Front.fresh _
theorem keptN_front (f : Nat → List Nat) (g : TreeG) (data : List Int) (zeros : Bool) (ps : List (List UInt8)) (pfs : List PF) (h : ∀ k p, pfs[k]? = some p → ∃ e, Front (f k ++ e) p) (j : Nat) :
    ∀ k p, (keptN g data zeros ps pfs j).1[k]? = some p → ∃ e, Front (f k ++ e) p := by
  induction j with
  | zero => exact h
  | succ j ih =>
    rw [keptN]
    cases fileOf g ⟨(ps.getD j []).toArray⟩ with
    | none => exact ih
    | some q =>
      intro k p hk
      simp only [List.getElem?_modify] at hk
      by_cases hq : q = k
      · simp only [hq, if_true] at hk
        cases hg : (keptN g data zeros ps pfs j).1[k]? with
        | none => rw [hg] at hk; cases hk
        | some p0 =>
          rw [hg] at hk
          injection hk with hk
          rw [← hk]
          exact Front.kept (ih k p0 hg) _ _
      · simp only [hq, if_false] at hk
        cases hg : (keptN g data zeros ps pfs j).1[k]? with
        | none => rw [hg] at hk; cases hk
        | some p0 =>
          rw [hg] at hk
          injection hk with hk
          rw [← hk]
          exact ih k p0 hg

theorem Shape.woken {g : TreeG} {n F : Nat} {dx dl : List DirG} (h : Shape g n) (hp : dx.Perm g.ds) (hl : likeDs dl dx) : Shape ⟨some F, dl⟩ n := by
  obtain ⟨b, hd⟩ := h.dirs
  rw [hd] at hp
  have hx := List.perm_singleton.1 hp
  rw [hx] at hl
  match dl, hl with
  | [y], hl =>
    obtain ⟨a, c, d⟩ := y
    simp only [likeDs, List.map_cons, List.map_nil, List.cons.injEq, Prod.mk.injEq, and_true] at hl
    obtain ⟨rfl, rfl⟩ := hl
    exact ⟨some F, c, rfl⟩
  | [], hl => simp [likeDs] at hl
  | _ :: _ :: _, hl => simp [likeDs] at hl

theorem Have.goods {f : Nat → List Nat} {B : Nat} (h : Have G m (Safe f B) T) : ∀ p ∈ G.pfs, ∃ j, j < m ∧ Safe f B j p := by
  intro p hp
  obtain ⟨j, hj, rfl⟩ := List.getElem_of_mem hp
  refine ⟨j, by rw [← h.len]; exact hj, ?_⟩
  rw [pfAt_eq hj]
  exact h.file j (by rw [← h.len]; exact hj)
/-- a text that is only in front -/
def Starts (f : Nat → List Nat) (j : Nat) (p : PF) : Prop := ∃ e, p.bytes = f j ++ e
theorem Have.woken {f : Nat → List Nat} {B F : Nat} {dl dx : List DirG} {data : List Int} {zeros : Bool} {ps : List (List UInt8)} {q : Nat} (h : Have G m (Safe f B) T) (hf : Firm G m) (hp : dx.Perm G.gd.ds) (hl : likeDs dl dx)
    (e1 : G'.gc = ⟨some F, dl⟩) (e2 : G'.gd = G.gd) (e3 : G'.pfs = (keptN ⟨some F, dl⟩ data zeros ps G.pfs q).1) (e4 : G'.cap = G.cap) (e5 : G'.off = false) (e6 : G'.crash = 0) (e7 : G'.steps = []) :
    Have G' m (Starts f) G'.used ∧ Firm G' m := by
  have hlen : G'.pfs.length = m := by rw [e3, keptN_length, h.len]
  refine ⟨⟨by rw [e1]; exact hf.gd.woken hp hl, hlen, fun j hj => ?_, e4.trans h.cap, rfl, e5, e6⟩, ⟨by rw [e2]; exact hf.gd, e7⟩⟩
  have hk := keptN_front f ⟨some F, dl⟩ data zeros ps G.pfs (fun k p hk => by
    obtain ⟨hk1, hk2⟩ := List.getElem?_eq_some_iff.1 hk
    refine ⟨[], ?_⟩
    rw [List.append_nil, ← hk2, pfAt_eq hk1]
    exact (h.file k (by rw [← h.len]; exact hk1)).front) q j (pfAt G' j) (by
      rw [← e3, List.getElem?_eq_getElem (by rw [hlen]; exact hj), pfAt_eq])
  obtain ⟨e, hk⟩ := hk
  obtain ⟨e', hk, _⟩ := hk.bytes
  exact ⟨e ++ e', by rw [hk, List.append_assoc]⟩
end
end Go.Proofs.YtanbmlikfhcpoaaDoor.Disk

/-
  The texts KRel, KOps, RChange, joined. Own text.
-/
import Derived.Test.YtmmlefbokplnnaaGreatDoorJ23
import Derived.Test.YtmmlefbokplnnaaGreatDoorJ18
import Derived.Test.YtmmlefbokplnnaaGreatDoorJ15
import Derived.Test.YtmmlefbokplnnaaGreatDoorJ16
import Derived.Test.YtmmlefbokplnnaaGreatDoorJ26
set_option linter.unusedVariables false
set_option linter.unusedSimpArgs false
namespace Go.Proofs.YtmmlefbokplnnaaGreatDoor.Disk
open Go.RowKit Go Go.Proofs.YtmmlefbokplnnaaGreatDoor.Base Go.Proofs.YtmmlefbokplnnaaGreatDoor.Map

/-- names steps that were taken one behind the other -/
def Chain (n : Nat) : List Thing → List NStep → List Thing → Prop
  | l, [], l' => l' = l
  | l, s :: r, l' => Valid l s ∧ (s.kind = 2 → s.num < n) ∧ s.b.size < 4294967281 ∧ Chain n (applied l s) r l'

theorem Chain.snoc {n : Nat} {s : NStep} : ∀ {ss : List NStep} {l l' : List Thing}, Chain n l ss l' → Valid l' s → (s.kind = 2 → s.num < n) → s.b.size < 4294967281 → Chain n l (ss ++ [s]) (applied l' s)
  | [], l, l', h, h1, h2, h3 => by
    have h : l' = l := h
    subst h
    exact ⟨h1, h2, h3, rfl⟩
  | a :: r, l, l', h, h1, h2, h3 => ⟨h.1, h.2.1, h.2.2.1, Chain.snoc h.2.2.2 h1 h2 h3⟩

theorem Chain.mono {n k : Nat} (hk : n ≤ k) : ∀ {ss : List NStep} {l l' : List Thing}, Chain n l ss l' → Chain k l ss l'
  | [], _, _, h => h
  | _ :: _, _, _, h => ⟨h.1, fun e => Nat.lt_of_lt_of_le (h.2.1 e) hk, h.2.2.1, Chain.mono hk h.2.2.2⟩

theorem Chain.split {n : Nat} : ∀ {ss : List NStep} {l l' : List Thing}, Chain n l ss l' → ∀ j, Chain n l (ss.take j) (appliedAll l (ss.take j)) ∧ ∀ (hj : j < ss.length), Valid (appliedAll l (ss.take j)) (ss[j]'hj) ∧ (ss[j]'hj).b.size < 4294967281
  | [], l, l', h, j => ⟨by rw [List.take_nil]; rfl, fun hj => by cases hj⟩
  | s :: r, l, l', h, 0 => ⟨rfl, fun hj => ⟨h.1, h.2.2.1⟩⟩
  | s :: r, l, l', h, j + 1 => by
    obtain ⟨h1, h2⟩ := Chain.split h.2.2.2 j
    exact ⟨⟨h.1, h.2.1, h.2.2.1, h1⟩, fun hj => h2 (by simpa using hj)⟩

theorem Chain.eq {n : Nat} : ∀ {ss : List NStep} {l l' : List Thing}, Chain n l ss l' → l' = appliedAll l ss
  | [], _, _, h => h
  | _ :: _, _, _, h => by have := Chain.eq h.2.2.2; exact this

theorem Chain.trel {n : Nat} : ∀ {ss : List NStep} {g g' : TreeG} {l l' : List Thing}, TRel g l → Wf l n → Chain n l ss l' → AppAll ss g g' → TRel g' l' ∧ Wf l' n
  | [], g, g', l, l', h, hw, hc, ha => by
    have hc : l' = l := hc
    have ha : g' = g := ha
    subst hc; subst ha
    exact ⟨h, hw⟩
  | s :: r, g, g', l, l', h, hw, hc, ha => by
    obtain ⟨gm, h1, h2⟩ := ha
    exact Chain.trel (trel_applied h hw hc.1 h1) (wf_applied hw hc.1 hc.2.1) hc.2.2.2 h2

theorem appliedAll_length : ∀ (ss : List NStep) (l : List Thing), (appliedAll l ss).length ≤ l.length + ss.length
  | [], l => Nat.le_refl _
  | s :: r, l => by
    have h1 := appliedAll_length r (applied l s)
    have h2 := applied_length l s
    show (appliedAll (applied l s) r).length ≤ _
    rw [List.length_cons]
    omega

/-- whatever is cut was there -/
def CutsOk : List Change → List Nat → Prop
  | [], _ => True
  | c :: r, now => if c.cut then c.size ≤ now.length ∧ CutsOk r (now.take c.size) else CutsOk r (now ++ c.text)
/-- all steps are played -/
def playAll : List Change → List Nat → List Nat
  | [], now => now
  | c :: r, now => if c.cut then playAll r (now.take c.size) else playAll r (now ++ c.text)

theorem cutsOk_snoc {c : Change} : ∀ {s : List Change} {now : List Nat}, CutsOk s now → (c.cut = true → c.size ≤ (playAll s now).length) → CutsOk (s ++ [c]) now
  | [], now, _, h => by
    rw [List.nil_append]
    unfold CutsOk
    split
    · rename_i hc
      exact ⟨h hc, trivial⟩
    · exact trivial
  | a :: r, now, h0, h => by
    rw [List.cons_append]
    unfold CutsOk at h0 ⊢
    unfold playAll at h
    split
    · rename_i hc
      rw [if_pos hc] at h0 h
      exact ⟨h0.1, cutsOk_snoc h0.2 h⟩
    · rename_i hc
      rw [if_neg hc] at h0 h
      exact cutsOk_snoc h0 h

theorem replay_all : ∀ (s : List Change) (now : List Nat), (∀ c ∈ s, c.cut = true → c.text = []) → ∀ left, changeUnits s ≤ left → (replay s now left true).1 = playAll s now
  | [], now, _, _, _ => rfl
  | c :: r, now, hf, left, hl => by
    have e : changeUnits (c :: r) = c.units + changeUnits r := by simp [changeUnits]
    rw [e] at hl
    unfold replay playAll
    by_cases hc : c.cut = true
    · have hu : c.units = 1 := by unfold Change.units; rw [hf c (List.mem_cons_self ..) hc, hc]; rfl
      rw [if_pos hc, if_pos hc, if_pos (by omega)]
      exact replay_all r _ (fun c hc => hf c (List.mem_cons_of_mem _ hc)) _ (by omega)
    · have hu : c.units = c.text.length := by unfold Change.units; simp [hc]
      rw [if_neg hc, if_neg hc, show min c.text.length left = c.text.length from by omega, List.take_length]
      exact replay_all r _ (fun c hc => hf c (List.mem_cons_of_mem _ hc)) _ (by omega)

theorem FRel.played {p : PF} {f : FB} (h : FRel p f) : playAll f.steps f.safe = f.now := by
  have h0 := (h.back 0 (Nat.zero_le _)).1
  rw [undoR_zero, Nat.sub_zero] at h0
  rw [← replay_all f.steps f.safe h.fit _ (Nat.le_refl _), ← h0]
  exact h.now

/-- the two disks say the same; S bounds all that they hold -/
structure Rel (G : DiskG) (m : M) (S : Nat) : Prop where
  cur : TRel G.gc m.things
  dur : TRel G.gd m.safe
  wfc : Wf m.things m.files.length
  wfd : Wf m.safe m.files.length
  steps : G.nsteps = m.steps
  chain : Chain m.files.length m.safe m.steps m.things
  len : G.pfs.length = m.files.length
  files : ∀ i, i < m.files.length → FRel (pfAt G i) (m.fileAt i)
  good : ∀ i, i < m.files.length → (pfAt G i).Good S ∧ unitsOf (pfAt G i).steps ≤ S ∧ (pfAt G i).steps.length ≤ S
  docs : ∀ i, i < m.files.length → (m.fileAt i).steps.length ≤ S ∧ (m.fileAt i).safe.length ≤ S ∧ CutsOk (m.fileAt i).steps (m.fileAt i).safe
  cap : G.cap = m.cap
  capl : m.cap ≤ 67108864
  off : G.off = m.off
  crash : m.off = false → G.crash = m.await
  await : m.await < 9223372036854775808
  crashl : G.crash < 9223372036854775808
  used : G.used = usedBy m.files m.things
  nt : m.things.length ≤ S
  nd : m.safe.length + m.steps.length ≤ S
  ns : m.steps.length ≤ S
  nf : m.files.length ≤ S

theorem lenAt_eq (m : M) (i : Nat) : lenAt m.files i = (m.fileAt i).now.length := by
  unfold lenAt M.fileAt
  rw [List.getD_eq_getElem?_getD]
  cases m.files[i]? <;> rfl

theorem usedBy_cons (fs : List FB) (x : Thing) (l : List Thing) : usedBy fs (x :: l) = (if x.dir then 0 else lenAt fs x.num) + usedBy fs l := by simp [usedBy]
theorem usedBy_append (fs : List FB) (a b : List Thing) : usedBy fs (a ++ b) = usedBy fs a + usedBy fs b := by simp [usedBy]

section
variable {G : DiskG} {m : M} {S : Nat}

theorem Rel.nslen (h : Rel G m S) : G.steps.length = m.steps.length := by
  have := congrArg List.length h.steps
  unfold DiskG.nsteps at this
  simpa using this

theorem Rel.nowl (h : Rel G m S) {i : Nat} (hi : i < m.files.length) : (m.fileAt i).now = (pfAt G i).bytes := (h.files i hi).now.symm

theorem Rel.nowlen (h : Rel G m S) {i : Nat} (hi : i < m.files.length) : (m.fileAt i).now.length ≤ S := by
  rw [h.nowl hi]; exact (h.good i hi).1.len

theorem usedBy_le (fs : List FB) (B : Nat) : ∀ l : List Thing, (∀ t ∈ l, t.dir = false → lenAt fs t.num ≤ B) → usedBy fs l ≤ l.length * B
  | [], _ => by simp [usedBy]
  | x :: l, h => by
    have ih := usedBy_le fs B l fun t ht => h t (List.mem_cons_of_mem _ ht)
    rw [usedBy_cons, List.length_cons, Nat.succ_mul]
    cases hd : x.dir
    · have := h x (List.mem_cons_self ..) hd
      simp
      omega
    · simp
      omega

theorem Rel.usedl (h : Rel G m S) : usedBy m.files m.things ≤ S * S := by
  refine Nat.le_trans (usedBy_le m.files S m.things fun t ht hd => ?_) (Nat.mul_le_mul_right _ h.nt)
  rw [lenAt_eq]
  exact h.nowlen (h.wfc.lt t ht hd)

theorem trel_nums {g : TreeG} {l : List Thing} {n : Nat} (h : TRel g l) (hw : Wf l n) : numsIn g n := by
  intro x hx p hp
  obtain ⟨t, h1, h2, _, _, h5⟩ := (h.files x.name p.1 p.2).1 ⟨x, hx, rfl, hp⟩
  rw [← h5]
  exact hw.lt t h1 h2

theorem Chain.nums {n : Nat} : ∀ {ss : List NStep} {l l' : List Thing}, Chain n l ss l' → ∀ s ∈ ss, s.kind = 2 → s.num < n
  | [], _, _, _, s, hs, _ => by cases hs
  | a :: r, _, _, h, s, hs, hk => by
    rcases List.mem_cons.1 hs with rfl | hs
    · exact h.2.1 hk
    · exact Chain.nums h.2.2.2 s hs hk

theorem Rel.nums (h : Rel G m S) : NumsOk G := by
  refine ⟨by rw [h.len]; exact trel_nums h.cur h.wfc, by rw [h.len]; exact trel_nums h.dur h.wfd, fun x hx hk => ?_⟩
  rw [h.len]
  refine h.chain.nums x.s ?_ hk
  rw [← h.steps]
  exact List.mem_map.2 ⟨x, hx, rfl⟩

theorem Rel.numsIn (h : Rel G m S) : NumsIn m := fun x hx hd => h.wfc.lt x hx hd

theorem Rel.lim (h : Rel G m S) (hS : S ≤ 1048576) : Lim m := by
  have hu := h.usedl
  have hSS : S * S ≤ 1048576 * 1048576 := Nat.mul_le_mul hS hS
  have h1 := h.nt
  have h2 := h.ns
  have h3 := h.nf
  refine ⟨h.await, by omega, by omega, by omega, fun x hx => ?_, fun f hf => ?_, ?_, h.capl⟩
  · have := path_le (h.wfc.anyPath hx); omega
  · obtain ⟨i, hi, rfl⟩ := List.getElem_of_mem hf
    have e := M.fileAt_eq hi
    rw [← e]
    have := h.nowlen hi
    have := (h.docs i hi).1
    exact ⟨by omega, by omega⟩
  · unfold M.used
    split <;> omega

theorem Rel.hfit (h : Rel G m S) : ∀ j (hj : j < G.steps.length) gm, AppAll (G.nsteps.take j) G.gd gm → Fits (G.steps[j]'hj).s gm := by
  intro j hj gm ha
  obtain ⟨h1, h2⟩ := h.chain.split j
  rw [h.steps] at ha
  obtain ⟨t1, t2⟩ := Chain.trel h.dur h.wfd h1 ha
  obtain ⟨v1, v2⟩ := h2 (by rw [← h.nslen]; exact hj)
  have e : (G.steps[j]'hj).s = m.steps[j]'(by rw [← h.nslen]; exact hj) := by
    have := h.steps
    unfold DiskG.nsteps at this
    simp only [← this, List.getElem_map]
  rw [e]
  exact fits_of t1 t2 v1 v2

theorem Rel.mono (h : Rel G m S) {S' : Nat} (hs : S ≤ S') : Rel G m S' := by
  refine ⟨h.cur, h.dur, h.wfc, h.wfd, h.steps, h.chain, h.len, h.files, fun i hi => ?_, fun i hi => ?_, h.cap, h.capl, h.off, h.crash, h.await, h.crashl, h.used, Nat.le_trans h.nt hs, Nat.le_trans h.nd hs, Nat.le_trans h.ns hs, Nat.le_trans h.nf hs⟩
  · obtain ⟨h1, h2, h3⟩ := h.good i hi
    refine ⟨?_, by omega, by omega⟩
    have mono : ∀ (l : List PStep) (b : List Nat), Disk.Good S l b → Disk.Good S' l b := by
      intro l
      induction l with
      | nil => intro b hb; exact ⟨Nat.le_trans hb.1 hs, hb.2⟩
      | cons s r ih =>
        intro b hb
        cases s with
        | cut t => exact ⟨⟨Nat.le_trans hb.1.1 hs, hb.1.2⟩, ih _ hb.2⟩
        | add k => exact ⟨⟨Nat.le_trans hb.1.1 hs, hb.1.2⟩, hb.2.1, ih _ hb.2.2⟩
    exact mono _ _ h1
  · obtain ⟨h1, h2, h3⟩ := h.docs i hi
    exact ⟨by omega, by omega, h3⟩

/-- what a refused call leaves -/
theorem Rel.refused (h : Rel G m S) {c : Nat} {G' : DiskG} (hr : Refused G c G') (hc : c = 1 → m.off = false → m.await = 1) : Rel G' (if m.off = false ∧ c = 1 then m.ticked else m) S := by
  rcases hr with ⟨rfl, hr⟩ | ⟨hr, rfl, rfl⟩
  · rw [if_neg]
    · exact h
    · rintro ⟨h1, h2⟩
      rcases hr with hr | hr
      · rw [h.off, h1] at hr; cases hr
      · exact hr h2
  · cases ho : m.off
    · rw [if_pos ⟨rfl, rfl⟩]
      have ha := hc rfl ho
      unfold M.ticked
      rw [if_pos ha]
      exact ⟨h.cur, h.dur, h.wfc, h.wfd, h.steps, h.chain, h.len, h.files, h.good, h.docs, h.cap, h.capl, rfl, fun hh => (by cases hh), (by show (0 : Nat) < 9223372036854775808; omega), h.crashl, h.used, h.nt, h.nd, h.ns, h.nf⟩
    · rw [if_neg (by simp)]
      refine ⟨h.cur, h.dur, h.wfc, h.wfd, h.steps, h.chain, h.len, h.files, h.good, h.docs, h.cap, h.capl, ho.symm, fun hh => ?_, h.await, h.crashl, h.used, h.nt, h.nd, h.ns, h.nf⟩
      rw [ho] at hh; cases hh

theorem Rel.there (h : Rel G m S) {p : ByteArray} (hp : isPath p = true) : existsG G.gc p = decide (isAt m.things p ≠ 0) := by
  rw [Bool.eq_iff_iff, h.cur.there h.wfc hp, decide_eq_true_eq]
theorem Rel.folder (h : Rel G m S) {p : ByteArray} (hp : isPath p = true) : isFolderG G.gc p = decide (isAt m.things p = 2) := by
  rw [Bool.eq_iff_iff, h.cur.folder h.wfc, decide_eq_true_eq]
  have := path_size_pos hp
  constructor
  · rintro (h1 | h1)
    · exact absurd h1 this
    · exact h1
  · exact .inr
theorem Rel.parent (h : Rel G m S) {p : ByteArray} (hp : isPath p = true) : isFolderG G.gc (dirOf p) = Disk.parent m.things p := by
  rw [Bool.eq_iff_iff, h.cur.parent h.wfc hp]

theorem Rel.mkdirCode (h : Rel G m S) (d : ByteArray) : mkdirCode G d = (m.mkdir d).1 := by
  unfold Disk.mkdirCode M.mkdir
  rw [h.off]
  cases ho : m.off
  · simp only [Bool.false_eq_true, if_false]
    cases hn : isName d
    · simp
    · simp only [Bool.true_eq_false, if_false]
      rw [h.there (name_path hn), h.crash ho]
      by_cases hx : isAt m.things d = 0
      · simp [hx, names_fst, tickV]
      · simp [hx]
  · simp

theorem Rel.createCode (h : Rel G m S) (p : ByteArray) : createCode G p = (m.create p).1 := by
  unfold Disk.createCode M.create
  rw [h.off]
  cases ho : m.off
  · simp only [Bool.false_eq_true, if_false]
    cases hn : isPath p
    · simp
    · simp only [Bool.true_eq_false, if_false]
      rw [h.there hn, h.crash ho, h.parent hn]
      cases hq : Disk.parent m.things p
      · simp
      · simp only [Bool.true_eq_false, if_false]
        by_cases hx : isAt m.things p = 0
        · simp only [hx, ne_eq, not_true_eq_false, decide_false, Bool.false_eq_true, if_false]
          split <;> rfl
        · simp [hx]
  · simp

theorem Rel.removeCode (h : Rel G m S) (p : ByteArray) : removeCode G p = (m.remove p).1 := by
  unfold Disk.removeCode M.remove
  rw [h.off]
  cases ho : m.off
  · simp only [Bool.false_eq_true, if_false]
    cases hn : isPath p
    · simp
    · simp only [Bool.true_eq_false, if_false]
      rw [h.there hn, h.crash ho]
      by_cases hx : isAt m.things p = 0
      · simp [hx]
      · simp [hx, names_fst, tickV]
  · simp

theorem Rel.renameCode (h : Rel G m S) (a b : ByteArray) : renameCode G a b = (m.rename a b).1 := by
  unfold Disk.renameCode M.rename
  rw [h.off]
  cases ho : m.off
  · simp only [Bool.false_eq_true, if_false]
    cases hn : isPath a
    · simp
    · cases hb : isPath b
      · simp
      · simp only [Bool.true_eq_false, if_false, Bool.and_self]
        rw [h.there hn, h.crash ho, h.folder hn, h.parent hb]
        unfold blocked
        rw [h.there hb, h.folder hn, h.folder hb]
        simp only [decide_eq_true_eq]
        by_cases h2 : isAt m.things a = 2 ∧ isName b = false
        · rw [if_pos h2, if_pos h2]
        · rw [if_neg h2, if_neg h2]
          by_cases h3 : isAt m.things a = 0
          · simp [h3]
          · cases hq : Disk.parent m.things b
            · simp [h3]
            · rcases isAt_lt (l := m.things) b with h4 | h4 | h4 
              · simp [h4, h3, names_fst, tickV]
              · by_cases h5 : isAt m.things a = 2 ∨ a = b
                · have h6 : (decide (isAt m.things a = 2) || decide (a = b)) = true := by simpa using h5
                  simp [h4, h3, h5]
                · have h6 := not_or.1 h5
                  simp [h4, h3, h6.1, h6.2, names_fst, tickV]
              · simp [h4, h3]
  · simp

/-- the file that a path stands for -/
theorem Rel.openCode (h : Rel G m S) (p : ByteArray) : openCode G p = (m.file p).2 ∧ ((m.file p).2 = 0 → fileOf G.gc p = some (m.file p).1 ∧ fileIn m.things p (m.file p).1) := by
  unfold Disk.openCode M.file
  rw [h.off]
  cases ho : m.off
  · simp only [Bool.false_eq_true, if_false]
    cases hn : isPath p
    · simp
    · simp only [Bool.true_eq_false, if_false]
      rw [h.folder hn]
      have hone := h.cur.fileNone h.wfc hn
      cases hf : find m.things p with
      | none =>
        have e0 : isAt m.things p = 0 := by unfold isAt; rw [hf]
        have e3 : fileOf G.gc p = none := by
          cases hx : fileOf G.gc p with
          | none => rfl
          | some j => rw [hx, e0] at hone; simp at hone
        simp [e0, e3]
      | some x =>
        obtain ⟨hx, hxp⟩ := (find_some h.wfc).1 hf
        cases hd : x.dir
        · have e1 : isAt m.things p = 1 := by unfold isAt; rw [hf]; simp [hd]
          have hfi : fileIn m.things p x.num := ⟨x, hx, hd, hxp, rfl⟩
          have hfo := (h.cur.fileAt h.wfc hn).2 hfi
          simp [e1, hfo, hd]
          exact hfi
        · have e2 : isAt m.things p = 2 := by unfold isAt; rw [hf]; simp [hd]
          simp [e2, hd]
  · simp

theorem Rel.fileLt (h : Rel G m S) {p : ByteArray} (hz : (m.file p).2 = 0) : (m.file p).1 < m.files.length := M.file_lt h.numsIn hz
theorem Rel.notOff {p : ByteArray} (hz : (m.file p).2 = 0) : m.off = false := by
  cases ho : m.off
  · rfl
  · unfold M.file at hz; rw [ho] at hz; cases hz

theorem Rel.allCode (h : Rel G m S) (p : ByteArray) : Disk.openCode G p = (m.all p).2 ∧ allText G p = (m.all p).1 := by
  obtain ⟨h1, h2⟩ := h.openCode p
  unfold M.all allText
  rw [h1]
  by_cases hz : (m.file p).2 = 0
  · obtain ⟨h3, _⟩ := h2 hz
    simp only [hz, ne_eq, not_true_eq_false, if_false, if_true, h3, Option.getD_some, true_and]
    exact (h.nowl (h.fileLt hz)).symm
  · simp [hz]

theorem Rel.readCode (h : Rel G m S) (p : ByteArray) (a n : Int) : readCode G p a n = (m.read p a n).2 ∧ readText G p a n = (m.read p a n).1 := by
  obtain ⟨h1, h2⟩ := h.openCode p
  unfold readText Disk.readCode M.read
  rw [h1]
  by_cases hz : (m.file p).2 = 0
  · obtain ⟨h3, _⟩ := h2 hz
    have e := h.nowl (h.fileLt hz)
    simp only [hz, ne_eq, not_true_eq_false, if_false, h3, Option.getD_some]
    rw [e]
    split
    · exact ⟨rfl, if_neg (by decide)⟩
    · exact ⟨rfl, if_pos rfl⟩
  · simp [hz]

theorem Rel.syncCode (h : Rel G m S) (p : ByteArray) : syncCode G p = (m.sync p).1 := by
  obtain ⟨h1, h2⟩ := h.openCode p
  unfold Disk.syncCode M.sync
  rw [h1]
  by_cases hz : (m.file p).2 = 0
  · simp only [hz, ne_eq, not_true_eq_false, if_false]
    rw [h.crash (Rel.notOff hz)]
    split <;> rfl
  · simp [hz]

theorem Rel.cutCode (h : Rel G m S) (p : ByteArray) (n : Int) : cutCode G p n = (m.cut p n).1 := by
  obtain ⟨h1, h2⟩ := h.openCode p
  unfold Disk.cutCode M.cut
  rw [h1]
  by_cases hz : (m.file p).2 = 0
  · simp only [hz, ne_eq, not_true_eq_false, if_false]
    rw [h.crash (Rel.notOff hz), (h2 hz).1]
    simp only [Option.getD_some]
    rw [h.nowl (h.fileLt hz)]
    split
    · rfl
    · split <;> rfl
  · simp [hz]

theorem Rel.flipCode (h : Rel G m S) (p : ByteArray) (a : Int) (k : Nat) : flipCode G p a = (m.flip p a k).1 := by
  obtain ⟨h1, h2⟩ := h.openCode p
  unfold Disk.flipCode M.flip
  rw [h1]
  by_cases hz : (m.file p).2 = 0
  · simp only [hz, ne_eq, not_true_eq_false, if_false]
    rw [(h2 hz).1]
    simp only [Option.getD_some]
    rw [h.nowl (h.fileLt hz)]
    split <;> rfl
  · simp [hz]

theorem Rel.appendCode (h : Rel G m S) (p : ByteArray) (t : List Nat) : appendCode G p t.length = (m.append p t).1 := by
  obtain ⟨h1, h2⟩ := h.openCode p
  unfold Disk.appendCode M.append
  rw [h1]
  by_cases hz : (m.file p).2 = 0
  · have ho : m.off = false := Rel.notOff hz
    have e : m.used = G.used := by unfold M.used; rw [ho, h.used]; rfl
    simp only [hz, ne_eq, not_true_eq_false, if_false]
    rw [h.crash ho, h.cap, e]
    split
    · rfl
    · split <;> rfl
  · simp [hz]

theorem Rel.syncNamesCode (h : Rel G m S) : syncNamesCode G = m.syncNames.1 := by
  unfold Disk.syncNamesCode M.syncNames
  rw [h.off]
  cases ho : m.off
  · simp only [Bool.false_eq_true, if_false]
    rw [h.crash ho]
    split <;> rfl
  · rfl

end
end Go.Proofs.YtmmlefbokplnnaaGreatDoor.Disk

namespace Go.Proofs.YtmmlefbokplnnaaGreatDoor.Disk
open Go.RowKit Go Go.Proofs.YtmmlefbokplnnaaGreatDoor.Base Go.Proofs.YtmmlefbokplnnaaGreatDoor.Map

/-- the call is refused -/
def Fails (m : M) (r : Nat × M) : Prop := r.1 ≠ 0 ∧ r.2 = (if m.off = false ∧ r.1 = 1 then m.ticked else m) ∧ (r.1 = 1 → m.off = false → m.await = 1)

theorem fails_plain (m : M) (c : Nat) (hc : c ≠ 0) (h1 : c = 1 → m.off = true) : Fails m (c, m) := by
  refine ⟨hc, ?_, fun h2 h3 => ?_⟩
  · rw [if_neg]
    rintro ⟨h3, h2⟩
    rw [h1 h2] at h3; cases h3
  · rw [h1 h2] at h3; cases h3
theorem fails_tick (m : M) (ho : m.off = false) (ha : m.await = 1) : Fails m (1, m.ticked) := by
  refine ⟨Nat.one_ne_zero, ?_, fun _ _ => ha⟩
  rw [if_pos ⟨ho, rfl⟩]

section
variable {G G' : DiskG} {m m' : M} {S : Nat}

theorem Rel.fail (h : Rel G m S) {c : Nat} (hr : Refused G c G') (hf : Fails m (c, m')) : Rel G' m' S := by
  obtain ⟨_, h2, h3⟩ := hf
  simp only at h2 h3
  rw [h2]
  exact h.refused hr h3

theorem ticked_eq (h : m.await ≠ 1) : m.ticked = { m with await := m.await - 1 } := by unfold M.ticked; rw [if_neg h]

theorem mkdir_cases (m : M) (d : ByteArray) : Fails m (m.mkdir d) ∨ (m.off = false ∧ isName d = true ∧ isAt m.things d = 0 ∧ m.mkdir d = (0, { m with await := m.await - 1, things := applied m.things ⟨1, d, ByteArray.empty, 0⟩, steps := m.steps ++ [⟨1, d, ByteArray.empty, 0⟩] })) := by
  unfold M.mkdir M.names
  cases ho : m.off
  · rw [if_neg (by decide)]
    cases hn : isName d
    · rw [if_pos rfl]; exact .inl (fails_plain m 2 (by decide) (fun hh => (by cases hh)))
    · rw [if_neg (by decide)]
      by_cases hx : isAt m.things d = 0
      · rw [if_neg (by simp [hx])]
        by_cases ha : m.await = 1
        · rw [if_pos ha]; exact .inl (fails_tick m ho ha)
        · rw [if_neg ha, ticked_eq ha]; exact .inr ⟨rfl, rfl, hx, by simp [ho]⟩
      · rw [if_pos hx]; exact .inl (fails_plain m 5 (by decide) (fun hh => (by cases hh)))
  · rw [if_pos rfl]; exact .inl (fails_plain m 1 (by decide) (fun _ => ho))

theorem create_cases (m : M) (p : ByteArray) : Fails m (m.create p) ∨ (m.off = false ∧ isPath p = true ∧ Disk.parent m.things p = true ∧ isAt m.things p = 0 ∧ m.create p = (0, { m with await := m.await - 1, things := applied m.things ⟨2, p, ByteArray.empty, m.files.length⟩, steps := m.steps ++ [⟨2, p, ByteArray.empty, m.files.length⟩], files := m.files ++ [⟨[], [], []⟩] })) := by
  unfold M.create M.names
  cases ho : m.off
  · rw [if_neg (by decide)]
    cases hn : isPath p
    · rw [if_pos rfl]; exact .inl (fails_plain m 2 (by decide) (fun hh => (by cases hh)))
    · rw [if_neg (by decide)]
      cases hq : Disk.parent m.things p
      · rw [if_pos rfl]; exact .inl (fails_plain m 4 (by decide) (fun hh => (by cases hh)))
      · rw [if_neg (by decide)]
        by_cases hx : isAt m.things p = 0
        · rw [if_neg (by simp [hx])]
          by_cases ha : m.await = 1
          · rw [if_pos ha]; exact .inl (fails_tick m ho ha)
          · rw [if_neg ha, if_neg ha, ticked_eq ha]; exact .inr ⟨rfl, rfl, rfl, hx, by simp [ho]⟩
        · rw [if_pos hx]; exact .inl (fails_plain m 5 (by decide) (fun hh => (by cases hh)))
  · rw [if_pos rfl]; exact .inl (fails_plain m 1 (by decide) (fun _ => ho))

theorem remove_cases (m : M) (p : ByteArray) : Fails m (m.remove p) ∨ (m.off = false ∧ isPath p = true ∧ isAt m.things p ≠ 0 ∧ m.remove p = (0, { m with await := m.await - 1, things := applied m.things ⟨4, p, ByteArray.empty, 0⟩, steps := m.steps ++ [⟨4, p, ByteArray.empty, 0⟩] })) := by
  unfold M.remove M.names
  cases ho : m.off
  · rw [if_neg (by decide)]
    cases hn : isPath p
    · rw [if_pos rfl]; exact .inl (fails_plain m 2 (by decide) (fun hh => (by cases hh)))
    · rw [if_neg (by decide)]
      by_cases hx : isAt m.things p = 0
      · rw [if_pos hx]; exact .inl (fails_plain m 4 (by decide) (fun hh => (by cases hh)))
      · rw [if_neg hx]
        by_cases ha : m.await = 1
        · rw [if_pos ha]; exact .inl (fails_tick m ho ha)
        · rw [if_neg ha, ticked_eq ha]; exact .inr ⟨rfl, rfl, hx, by simp [ho]⟩
  · rw [if_pos rfl]; exact .inl (fails_plain m 1 (by decide) (fun _ => ho))

theorem rename_cases (m : M) (a b : ByteArray) : Fails m (m.rename a b) ∨ (m.off = false ∧ Valid m.things ⟨3, a, b, 0⟩ ∧ m.rename a b = (0, { m with await := m.await - 1, things := applied m.things ⟨3, a, b, 0⟩, steps := m.steps ++ [⟨3, a, b, 0⟩] })) := by
  unfold M.rename M.names
  cases ho : m.off
  · rw [if_neg (by decide)]
    cases hn : (isPath a && isPath b)
    · rw [if_pos rfl]; exact .inl (fails_plain m 2 (by decide) (fun hh => (by cases hh)))
    · rw [if_neg (by decide)]
      rw [Bool.and_eq_true] at hn
      by_cases h2 : isAt m.things a = 2 ∧ isName b = false
      · rw [if_pos h2]; exact .inl (fails_plain m 2 (by decide) (fun hh => (by cases hh)))
      · rw [if_neg h2]
        by_cases h3 : isAt m.things a = 0 ∨ Disk.parent m.things b = false
        · rw [if_pos h3]; exact .inl (fails_plain m 4 (by decide) (fun hh => (by cases hh)))
        · rw [if_neg h3]
          by_cases h4 : isAt m.things b = 2 ∨ (isAt m.things b = 1 ∧ (isAt m.things a = 2 ∨ a = b))
          · rw [if_pos h4]; exact .inl (fails_plain m 5 (by decide) (fun hh => (by cases hh)))
          · rw [if_neg h4]
            by_cases ha : m.await = 1
            · rw [if_pos ha]; exact .inl (fails_tick m ho ha)
            · rw [if_neg ha, ticked_eq ha]
              refine .inr ⟨rfl, .inr (.inr (.inl ⟨rfl, hn.1, hn.2, fun hh => ?_, fun hh => h3 (.inl hh), ?_, h4⟩)), by simp [ho]⟩
              · cases hb : isName b
                · exact absurd ⟨hh, hb⟩ h2
                · rfl
              · cases hq : Disk.parent m.things b
                · exact absurd (.inr hq) h3
                · rfl
  · rw [if_pos rfl]; exact .inl (fails_plain m 1 (by decide) (fun _ => ho))

theorem syncNames_cases (m : M) : Fails m m.syncNames ∨ (m.off = false ∧ m.syncNames = (0, { m with await := m.await - 1, safe := m.things, steps := [] })) := by
  unfold M.syncNames
  cases ho : m.off
  · rw [if_neg (by decide)]
    by_cases ha : m.await = 1
    · rw [if_pos ha]; exact .inl (fails_tick m ho ha)
    · rw [if_neg ha, ticked_eq ha]; exact .inr ⟨rfl, by simp [ho]⟩
  · rw [if_pos rfl]; exact .inl (fails_plain m 1 (by decide) (fun _ => ho))

theorem pfAt_congr (h : G'.pfs = G.pfs) (i : Nat) : pfAt G' i = pfAt G i := by unfold pfAt; rw [h]

/-- a names step was taken -/
theorem Rel.stepped {s : NStep} (h : Rel G m S) (ho : m.off = false) (hv : Valid m.things s) (hn : s.kind = 2 → s.num < m.files.length) (hb : s.b.size < 4294967281)
    (h1 : Applied s G.gc G'.gc) (h2 : G'.nsteps = G.nsteps ++ [s]) (h3 : G'.gd = G.gd) (h4 : G'.pfs = G.pfs) (h5 : G'.cap = G.cap) (h6 : G'.used = usedBy m.files (applied m.things s)) (h7 : G'.off = G.off) (h8 : G'.crash = G.crash - 1) :
    Rel G' { m with await := m.await - 1, things := applied m.things s, steps := m.steps ++ [s] } (S + 1) := by
  have hm := h.mono (Nat.le_succ S)
  have hl := applied_length m.things s
  have hc := h.crash ho
  refine ⟨trel_applied h.cur h.wfc hv h1, by rw [h3]; exact h.dur, wf_applied h.wfc hv hn, h.wfd, by rw [h2, h.steps], h.chain.snoc hv hn hb, by rw [h4]; exact h.len, fun i hi => ?_, fun i hi => ?_, hm.docs, by rw [h5]; exact h.cap, h.capl, by rw [h7]; exact h.off, fun _ => ?_, ?_, ?_, h6, ?_, ?_, ?_, hm.nf⟩
  · rw [pfAt_congr h4]; exact h.files i hi
  · rw [pfAt_congr h4]; exact hm.good i hi
  · show G'.crash = m.await - 1
    rw [h8, hc]
  · have := h.await; show m.await - 1 < _; omega
  · have := h.crashl; omega
  · have := h.nt; show (applied m.things s).length ≤ _; omega
  · have := h.nd; show m.safe.length + (m.steps ++ [s]).length ≤ _; rw [List.length_append]; simp; omega
  · have := h.ns; show (m.steps ++ [s]).length ≤ _; rw [List.length_append]; simp; exact this

theorem Rel.mkdired {d : ByteArray} (h : Rel G m S) {G' : DiskG} (hd : Mkdired G d (Disk.mkdirCode G d) G') : Rel G' (m.mkdir d).2 (S + 1) := by
  have hcode := h.mkdirCode d
  rcases mkdir_cases m d with hf | ⟨ho, hn, hx, he⟩
  · rcases hd with ⟨_, hr⟩ | ⟨h0, _⟩
    · rw [hcode] at hr
      exact (h.fail hr hf).mono (Nat.le_succ S)
    · rw [hcode] at h0; exact absurd h0 hf.1
  · rw [he] at hcode ⊢
    rcases hd with ⟨h0, _⟩ | ⟨_, fm, b, v, bs, e1, e2, e3, e4, e5, e6, e7, e8, e9, e10, e11⟩
    · exact absurd hcode h0
    · refine h.stepped ho (.inl ⟨rfl, hn, hx⟩) (fun hh => by cases hh) (by show ByteArray.empty.size < _; decide) (.inl ⟨rfl, fm, b, e1⟩) (by unfold DiskG.nsteps; rw [e2]; simp) e3 e5 e8 ?_ e10 e11
      rw [e9, h.used, applied_new (by show (1 : Nat) ≠ 3; decide) (by show (1 : Nat) ≠ 4; decide), usedBy_append]
      have : born ⟨1, d, ByteArray.empty, 0⟩ = [⟨d, true, 0⟩] := rfl
      rw [this]
      simp [usedBy]

theorem usedBy_grow (fs : List FB) (f : FB) (l : List Thing) (h : ∀ t ∈ l, t.dir = false → t.num < fs.length) : usedBy (fs ++ [f]) l = usedBy fs l := by
  unfold usedBy
  congr 1
  apply List.map_congr_left
  intro t ht
  cases hd : t.dir
  · have := h t ht hd
    unfold lenAt
    rw [List.getElem?_append_left this]
  · rfl

/-- a file more -/
theorem Rel.grow (h : Rel G m S) : Rel { G with pfs := G.pfs ++ [⟨[], []⟩] } { m with files := m.files ++ [⟨[], [], []⟩] } (S + 1) := by
  have hm := h.mono (Nat.le_succ S)
  have hl : (m.files ++ [(⟨[], [], []⟩ : FB)]).length = m.files.length + 1 := by simp
  have old : ∀ i, i < m.files.length → pfAt { G with pfs := G.pfs ++ [⟨[], []⟩] } i = pfAt G i ∧ M.fileAt { m with files := m.files ++ [⟨[], [], []⟩] } i = m.fileAt i := fun i hi => by
    unfold pfAt M.fileAt
    simp only [List.getD_eq_getElem?_getD]
    rw [List.getElem?_append_left (by rw [h.len]; exact hi), List.getElem?_append_left hi]
    exact ⟨rfl, rfl⟩
  have new : ∀ i, ¬ i < m.files.length → i < (m.files ++ [(⟨[], [], []⟩ : FB)]).length → pfAt { G with pfs := G.pfs ++ [⟨[], []⟩] } i = ⟨[], []⟩ ∧ M.fileAt { m with files := m.files ++ [⟨[], [], []⟩] } i = ⟨[], [], []⟩ := fun i hi hi2 => by
    have : i = m.files.length := by omega
    subst this
    unfold pfAt M.fileAt
    simp only [List.getD_eq_getElem?_getD]
    constructor
    · rw [List.getElem?_append_right (by rw [h.len]; exact Nat.le_refl _), h.len]; simp
    · rw [List.getElem?_append_right (Nat.le_refl _)]; simp
  refine ⟨h.cur, h.dur, ?_, ?_, h.steps, ?_, ?_, fun i hi => ?_, fun i hi => ?_, fun i hi => ?_, h.cap, h.capl, h.off, h.crash, h.await, h.crashl, ?_, hm.nt, hm.nd, hm.ns, ?_⟩
  · exact wf_mono h.wfc (by rw [hl]; exact Nat.le_succ _)
  · exact wf_mono h.wfd (by rw [hl]; exact Nat.le_succ _)
  · exact h.chain.mono (by rw [hl]; exact Nat.le_succ _)
  · show (G.pfs ++ [_]).length = _
    simp [h.len]
  · by_cases hi2 : i < m.files.length
    · rw [(old i hi2).1, (old i hi2).2]; exact h.files i hi2
    · rw [(new i hi2 hi).1, (new i hi2 hi).2]; exact FRel.fresh []
  · by_cases hi2 : i < m.files.length
    · rw [(old i hi2).1]; exact hm.good i hi2
    · rw [(new i hi2 hi).1]; exact ⟨⟨by simp, by simp⟩, by simp [unitsOf], by simp⟩
  · by_cases hi2 : i < m.files.length
    · rw [(old i hi2).2]; exact hm.docs i hi2
    · rw [(new i hi2 hi).2]; exact ⟨by simp, by simp, trivial⟩
  · show G.used = usedBy (m.files ++ _) m.things
    rw [usedBy_grow _ _ _ h.wfc.lt]
    exact h.used
  · rw [hl]; have := h.nf; omega

theorem Rel.created {w : World} {p : ByteArray} (h : Rel G m S) {G' : DiskG} (hd : Created w G p (Disk.createCode G p) G') : Rel G' (m.create p).2 (S + 2) := by
  have hcode := h.createCode p
  rcases create_cases m p with hf | ⟨ho, hn, hq, hx, he⟩
  · rcases hd with ⟨_, hr⟩ | ⟨h0, _⟩
    · rw [hcode] at hr
      exact (h.fail hr hf).mono (by omega)
    · rw [hcode] at h0; exact absurd h0 hf.1
  · rw [he] at hcode ⊢
    rcases hd with ⟨h0, _⟩ | ⟨_, B, v, bs, _, e1, e2, e3, e4, e5, e6, e7, e8, e9, e10, e11⟩
    · exact absurd hcode h0
    · have hg := h.grow
      have hv : Valid m.things ⟨2, p, ByteArray.empty, m.files.length⟩ := .inr (.inl ⟨rfl, hn, hq, hx, h.wfc.lt⟩)
      refine hg.stepped (G' := G') ho hv (fun _ => by simp) (by show ByteArray.empty.size < _; decide) (.inr (.inl ⟨rfl, by rw [← h.len]; exact e1⟩)) (by unfold DiskG.nsteps; rw [e2, ← h.len]; simp) e3 e5 e8 ?_ e10 e11
      rw [e9, h.used, applied_new (by show (2 : Nat) ≠ 3; decide) (by show (2 : Nat) ≠ 4; decide), usedBy_append]
      have : born ⟨2, p, ByteArray.empty, m.files.length⟩ = [⟨p, false, m.files.length⟩] := rfl
      rw [this]
      show _ = usedBy (m.files ++ _) m.things + usedBy (m.files ++ _) _
      rw [usedBy_grow _ _ _ h.wfc.lt, usedBy_cons]
      simp [usedBy, lenAt]

theorem Rel.syncedNames (h : Rel G m S) {G' : DiskG} (hd : SyncedNames G (Disk.syncNamesCode G) G') : Rel G' m.syncNames.2 S := by
  have hcode := h.syncNamesCode
  rcases syncNames_cases m with hf | ⟨ho, he⟩
  · rcases hd with ⟨_, hr⟩ | ⟨h0, _⟩
    · rw [hcode] at hr
      exact h.fail hr hf
    · rw [hcode] at h0; exact absurd h0 hf.1
  · rw [he] at hcode ⊢
    rcases hd with ⟨h0, _⟩ | ⟨_, gd', ha, rfl⟩
    · exact absurd hcode h0
    · rw [h.steps] at ha
      obtain ⟨t1, t2⟩ := h.chain.trel h.dur h.wfd ha
      have hc := h.crash ho
      refine ⟨h.cur, t1, h.wfc, h.wfc, rfl, rfl, h.len, h.files, h.good, h.docs, h.cap, h.capl, h.off, fun _ => ?_, ?_, ?_, h.used, h.nt, by simpa using h.nt, by simp, h.nf⟩
      · show G.crash - 1 = m.await - 1
        rw [hc]
      · have := h.await; show m.await - 1 < _; omega
      · have := h.crashl; show G.crash - 1 < _; omega

end
end Go.Proofs.YtmmlefbokplnnaaGreatDoor.Disk

namespace Go.Proofs.YtmmlefbokplnnaaGreatDoor.Disk
open Go.RowKit Go Go.Proofs.YtmmlefbokplnnaaGreatDoor.Base Go.Proofs.YtmmlefbokplnnaaGreatDoor.Map

theorem flat_set02 {α : Type} {f : α → List Value} (hk : ∀ x, (f x).length = 3) (l : List α) (j : Nat) (x : α) (a b c : Value) (hx : f x = [a, b, c]) (hj : j < l.length) (hb : (f (l[j]'hj))[1]? = some b) :
    (((l.flatMap f).set (j * 3) a).set (j * 3 + 2) c) = (l.set j x).flatMap f := by
  induction l generalizing j with
  | nil => simp at hj
  | cons s r ih =>
    obtain ⟨s0, s1, s2, hs⟩ : ∃ s0 s1 s2, f s = [s0, s1, s2] := by
      have := hk s
      match h : f s, this with
      | [s0, s1, s2], _ => exact ⟨s0, s1, s2, rfl⟩
    cases j with
    | zero =>
      have hb : (f s)[1]? = some b := hb
      rw [hs] at hb
      simp at hb
      subst hb
      simp [List.flatMap_cons, hs, hx]
    | succ j =>
      have := ih j (by simpa using hj) (by simpa using hb)
      rw [List.flatMap_cons, hs, List.set_cons_succ, List.flatMap_cons, hs, ← this]
      rw [show (j + 1) * 3 = j * 3 + 3 from by omega]
      simp

theorem change_info : (Tryz.prog.info? 120).map (fun i => (i.zero, i.size, i.bytes)) = some (some (.agg #[.string ⟨#[]⟩, .bool false, .int .i64 0]), 3, 32) := by kernel_rfl

theorem change_push (w : World) (v : Value) (n : Nat) (l : List Change) (s : Change) {x0 x1 x2 : Value} (hx : changeC s = [x0, x1, x2]) (hown : w.ownsRow 0 120 3 v n (l.flatMap changeC)) (b : Nat) (hb : w.heap[b]? = some (.cells #[x0, x1, x2] 120)) (hl : n < 1099511627776) :
    ∃ v' w', (Builtin.append_ #[99, 99] 99 #[v, .slice (some ⟨b, 0, none⟩) 1 1]).run Tryz.prog w = .ok v' w' ∧ w'.ownsRow 0 120 3 v' (n + 1) ((l ++ [s]).flatMap changeC) ∧ w.grownBy w' v.ownBlock ∧ (v'.ownBlock = v.ownBlock ∨ v'.ownBlock = some w.heap.size) := by
  rw [List.flatMap_append, show [s].flatMap changeC = changeC s from by simp]
  refine row_push Tryz.underlying99 change_info rfl (by decide) (by decide) w v n _ hown (changeC s) rfl (by intro u hu; simp [changeC] at hu; rcases hu with rfl | rfl | rfl <;> rfl) b ?_ hl
  rw [hb, hx]

section
variable {w : World} {R : Nat} {q : RefG} {m : M}

/-- a file's bytes are others, and a change more: the two stores -/
theorem change_fin {w4 : World} (h : RefAt w R q m) {j g cap : Nat} (hj : j < m.files.length) (hv : q.fv = .slice (some ⟨g, 0, none⟩) m.files.length cap) (now : List Nat) (c : Change) {x0 x1 x2 : Value} (hx : changeC c = [x0, x1, x2]) (hl : (m.fileAt j).steps.length < 1099511627776)
    (hw1 : w.setCell ⟨g, j * 3, none⟩ (.string (strN now)) = w4) :
    ∃ ca cc a6 c6 w6,
      w4.cell? ⟨R, 3, none⟩ = some q.fv ∧
      w4.cell? ⟨g, j * 3 + 2, none⟩ = some (.slice ca (m.fileAt j).steps.length cc) ∧
      (w4.alloc (.cells #[x0, x1, x2] 120)).cell? ⟨R, 3, none⟩ = some q.fv ∧
      (w4.alloc (.cells #[x0, x1, x2] 120)).cell? ⟨g, j * 3 + 2, none⟩ = some (.slice ca (m.fileAt j).steps.length cc) ∧
      (Builtin.append_ #[99, 99] 99 #[.slice ca (m.fileAt j).steps.length cc, .slice (some ⟨w4.heap.size, 0, none⟩) 1 1]).run Tryz.prog (w4.alloc (.cells #[x0, x1, x2] 120)).drew = .ok (.slice a6 ((m.fileAt j).steps.length + 1) c6) w6 ∧
      w6.cell? ⟨R, 3, none⟩ = some q.fv ∧ (∃ u, w6.cell? ⟨g, j * 3 + 2, none⟩ = some u) ∧ w6.frozen? ⟨g, j * 3 + 2, none⟩ = false ∧
      RefDone w R q (w6.setCell ⟨g, j * 3 + 2, none⟩ (.slice a6 ((m.fileAt j).steps.length + 1) c6)) { q with cs := q.cs.set j (.slice a6 ((m.fileAt j).steps.length + 1) c6) } (m.setFile j ⟨now, (m.fileAt j).safe, (m.fileAt j).steps ++ [c]⟩) := by
  have hjc : j < q.cs.length := by rw [h.len]; exact hj
  have hfs := h.files
  have hgk : isK w g 101 := row_kind hfs (by rw [hv]; rfl)
  have hgR : R ≠ g := h.kind.ne hgk (by decide)
  have hrow := hfs
  rw [hv] at hrow
  obtain ⟨bc, hbk⟩ : ∃ cur, w.heap[g]? = some (.cells cur 101) := row_cells hrow rfl
  have r1 := (hrow.stored (j * 3) (.string (strN now))).1
  have hb1 := heap_setCell_same w g (j * 3) bc _ (.string (strN now)) hbk
  rw [hw1] at r1 hb1
  have t1 : Turn (fun k => k = g) w w4 := by rw [← hw1]; exact (Turn.refl _ w).set _ _ (fun _ => rfl)
  have hs1 : w4.heap.size = w.heap.size := by rw [← hw1]; simp [World.setCell]
  have hR1 : w4.heap[R]? = some (.cells (refCells q m) 43) := by rw [t1.block R h.lt (fun e => hgR e)]; exact h.block
  have hc1 := row_turn (h.changes j hj hjc) t1 (fun k hk e => by subst e; have := (row_kind (h.changes j hj hjc) hk).one hgk; revert this; decide)
  rw [← M.fileAt_eq hj] at hc1
  obtain ⟨ca, cc, hcv, _⟩ := row_open (f := changeC) (k := 3) (fun _ => rfl) hc1 rfl
  have hck : ∀ k, (q.cs[j]'hjc).ownBlock = some k → isK w4 k 120 := fun k hk => row_kind hc1 hk
  have hzl : (m.files.zip q.cs).length = m.files.length := by rw [List.length_zip, h.len, Nat.min_self]
  have hgl : g < w.heap.size := (Array.getElem?_eq_some_iff.1 hbk).1
  obtain ⟨w2, hw2⟩ : ∃ w2, w4.alloc (.cells #[x0, x1, x2] 120) = w2 := ⟨_, rfl⟩
  have hbel : Below w4.heap.size w4 w2.drew := by rw [← hw2]; exact (below_alloc _ _).drewN 1
  have hbel2 : Below w4.heap.size w4 w2 := by rw [← hw2]; exact below_alloc _ _
  have hnew : w2.drew.heap[w.heap.size]? = some (.cells #[x0, x1, x2] 120) := by rw [← hw2, ← hs1]; exact heap_alloc_new _ _
  obtain ⟨v6, w6, hrun, hrow6, hg6, hloc⟩ := change_push w2.drew (q.cs[j]'hjc) _ _ c hx (row_turn (S := fun _ => False) hc1 (Turn.of_below hbel) (fun _ _ => id)) w.heap.size hnew hl
  obtain ⟨a6, c6, rfl, _⟩ := row_open (f := changeC) (k := 3) (fun _ => rfl) hrow6 (by simp)
  rw [hw2]
  have cell3 : w4.cell? ⟨R, 3, none⟩ = some q.fv := by rw [cell_of_row _ _ 3 _ _ _ hR1]; rfl
  have cell2 : w4.cell? ⟨g, j * 3 + 2, none⟩ = some (.slice ca (m.fileAt j).steps.length cc) := by
    obtain ⟨g', cap', hv', _, _, _, _, k2⟩ := h.fileCells hj
    have hgg : g = g' := by rw [hv] at hv'; simp at hv'; exact hv'.1
    subst hgg
    rw [cell_of_row _ g _ _ _ _ hb1, Array.getElem?_setIfInBounds_ne (by omega), ← cell_of_row _ g _ _ _ _ hbk, k2, hcv]
  have tg : Turn (fun k => (q.cs[j]'hjc).ownBlock = some k) w2.drew w6 := Turn.of_grown hg6 fun k hk => hk
  have hR6 : w6.heap[R]? = some (.cells (refCells q m) 43) := by
    rw [tg.block R (by have := hbel.size; have := h.lt; omega) (fun e => by
      have k1 := hck _ e
      have k2 : isK w4 R 43 := ⟨_, _, hR1⟩
      have := k1.one k2; revert this; decide), hbel.block R (by have := h.lt; omega)]
    exact hR1
  have hg6b : w6.heap[g]? = some (.cells (bc.setIfInBounds (j * 3) (.string (strN now))) 101) := by
    rw [tg.block g (by have := hbel.size; omega) (fun e => by
      have k1 := hck _ e
      have k2 : isK w4 g 101 := ⟨_, _, hb1⟩
      have := k1.one k2; revert this; decide), hbel.block g (by omega)]
    exact hb1
  have r6 := (row_of_block r1 (fun k hk => by
    have : k = g := by simp [Value.ownBlock] at hk; exact hk.symm
    subst this
    rw [hg6b, hb1])).stored (j * 3 + 2) (.slice a6 ((m.fileAt j).steps.length + 1) c6)
  have r7 := r6.1
  rw [flat_set02 (f := fbC) (fun _ => rfl) (m.files.zip q.cs) j ((⟨now, (m.fileAt j).safe, (m.fileAt j).steps ++ [c]⟩ : FB), .slice a6 ((m.fileAt j).steps.length + 1) c6) _ (.string (strN (m.fileAt j).safe)) _ rfl (by rw [hzl]; exact hj) (by rw [List.getElem_zip, ← M.fileAt_eq hj]; rfl), ← zip_set, ← hv] at r7
  have hTg : Turn (fun k => k = g ∨ (q.cs[j]'hjc).ownBlock = some k) w (w6.setCell ⟨g, j * 3 + 2, none⟩ (.slice a6 ((m.fileAt j).steps.length + 1) c6)) := by
    have t2 : Turn (fun k => k = g ∨ (q.cs[j]'hjc).ownBlock = some k) w w2.drew := (t1.mono fun _ _ hk => .inl hk).trans (Turn.of_below (S := fun k => k = g ∨ (q.cs[j]'hjc).ownBlock = some k) hbel) (fun _ _ hh => hh)
    exact (t2.trans (tg.mono fun _ _ hk => .inr hk) (fun _ _ hh => hh)).set _ _ (fun _ => .inl rfl)
  have hcr : (w6.setCell ⟨g, j * 3 + 2, none⟩ (.slice a6 ((m.fileAt j).steps.length + 1) c6)).ownsRow 0 120 3 (.slice a6 ((m.fileAt j).steps.length + 1) c6) ((m.fileAt j).steps ++ [c]).length (((m.fileAt j).steps ++ [c]).flatMap changeC) := by
    rw [List.length_append]
    refine row_turn (S := fun k => k = g) hrow6 ((Turn.refl _ _).set _ _ (fun _ => rfl)) fun k hk e => ?_
    subst e
    have k1 := row_kind hrow6 hk
    have k2 : isK w6 k 101 := ⟨_, _, hg6b⟩
    have := k1.one k2; revert this; decide
  have hp := h.parts.newFile hjc ⟨now, (m.fileAt j).safe, (m.fileAt j).steps ++ [c]⟩ (.slice a6 ((m.fileAt j).steps.length + 1) c6) hgk hTg (fun k hk => hk) r7 hcr (fun k hk => by
    rcases hloc with hl' | hl'
    · rw [hl'] at hk; exact .inl hk
    · rw [hl'] at hk; injection hk with hk
      have := hbel.size
      exact .inr (by omega))
  refine ⟨ca, cc, a6, c6, w6, cell3, cell2, ?_, ?_, by rw [← hcv, hs1]; exact hrun, by rw [cell_of_row _ _ 3 _ _ _ hR6]; rfl, ?_, by simp only [World.frozen?, hg6b]; rfl, hp.at ?_, hTg.mono fun k _ hk => ?_, fun k hk => ?_⟩
  · exact (hbel2.cell (by have := h.lt; show R < _; omega)).trans cell3
  · exact (hbel2.cell (by show g < _; omega)).trans cell2
  · refine ⟨.slice ca (m.fileAt j).steps.length cc, ?_⟩
    rw [cell_of_row _ g _ _ _ _ hg6b, ← cell_of_row _ g _ _ _ _ hb1]
    exact cell2
  · rw [Below.heap_setCell _ _ _ _ (by show R ≠ g; exact hgR), hR6]; rfl
  · rcases hk with hk | hk
    · subst hk; exact .inr (.inr (.inl (by rw [hv]; rfl)))
    · exact .inr (.inr (.inr ⟨_, List.getElem_mem hjc, hk⟩))
  · rcases hk with hk | hk | hk | ⟨v, hv2, hk⟩
    · exact .inl (.inl hk)
    · exact .inl (.inr (.inl hk))
    · exact .inl (.inr (.inr (.inl hk)))
    · simp only at hv2
      rcases List.mem_or_eq_of_mem_set hv2 with h3 | h3
      · exact .inl (.inr (.inr (.inr ⟨v, h3, hk⟩)))
      · subst h3
        rcases hloc with hl' | hl'
        · rw [hl'] at hk; exact .inl (.inr (.inr (.inr ⟨_, List.getElem_mem hjc, hk⟩)))
        · rw [hl'] at hk; injection hk with hk
          have := hbel.size
          exact .inr (by omega)

end
end Go.Proofs.YtmmlefbokplnnaaGreatDoor.Disk

/-
  The texts DCreate, DOpen, DFiled, joined. Own text.
-/
import Derived.Test.YtmmlefbokplnnaaGreatDoorJ12
set_option linter.unusedVariables false
set_option linter.unusedSimpArgs false
namespace Go.Proofs.YtmmlefbokplnnaaGreatDoor.Disk
open Go.RowKit Go Go.Proofs.YtmmlefbokplnnaaGreatDoor.Base Go.Proofs.YtmmlefbokplnnaaGreatDoor.Map

def numsIn (g : TreeG) (n : Nat) : Prop := ∀ x ∈ g.ds, ∀ p ∈ x.files, p.2 < n
structure NumsOk (G : DiskG) : Prop where
  cur : numsIn G.gc G.pfs.length
  dur : numsIn G.gd G.pfs.length
  steps : ∀ x ∈ G.steps, x.s.kind = 2 → x.s.num < G.pfs.length

theorem TreeAt.congr {w : World} {ptr ptr' : Nat → Nat} {g : TreeG} {n : Nat} (h : TreeAt w ptr g) (hn : numsIn g n) (hp : ∀ i, i < n → ptr' i = ptr i) : TreeAt w ptr' g := by
  refine ⟨h.none, h.top, fun x hx => ?_, h.apart⟩
  have : fileEnts ptr' x.files = fileEnts ptr x.files := by
    unfold fileEnts
    apply List.map_congr_left
    intro p hp'
    unfold ptrV
    rw [hp _ (hn x hx p hp')]
  rw [this]
  exact h.dirs x hx

theorem StepAt.congr {w : World} {ptr ptr' : Nat → Nat} {v : Value} {bs : List Nat} {s : NStep} (h : StepAt w ptr v bs s) (hp : s.kind = 2 → ptr' s.num = ptr s.num) : StepAt w ptr' v bs s := by
  rcases h with h | ⟨B, C, h1, h2, h3, h4, h5⟩ | h
  · exact .inl h
  · refine .inr (.inl ⟨B, C, h1, h2, h3, h4, ?_⟩)
    unfold ptrV
    rw [hp h1]
    exact h5
  · exact .inr (.inr h)

/-- a new file, empty -/
def DiskG.push (G : DiskG) (B : Nat) : DiskG :=
  { G with pfs := G.pfs ++ [⟨[], []⟩], ptr := fun i => if i < G.pfs.length then G.ptr i else B, bvs := fun i => if i < G.pfs.length then G.bvs i else .slice none 0 0, svs := fun i => if i < G.pfs.length then G.svs i else .slice none 0 0 }

theorem Parts.push {w : World} {G : DiskG} (h : Parts w G) (hn : NumsOk G) {B : Nat} (hB : w.heap[B]? = some (.cells #[.slice none 0 0, .slice none 0 0] 94)) (hnew : ∀ i, i < G.pfs.length → G.ptr i ≠ B) : Parts w (G.push B) := by
  have hpt : ∀ i, i < G.pfs.length → (G.push B).ptr i = G.ptr i := fun i hi => by show (if i < G.pfs.length then G.ptr i else B) = _; rw [if_pos hi]
  have hbv : ∀ i, i < G.pfs.length → (G.push B).bvs i = G.bvs i := fun i hi => by show (if i < G.pfs.length then G.bvs i else _) = _; rw [if_pos hi]
  have hsv : ∀ i, i < G.pfs.length → (G.push B).svs i = G.svs i := fun i hi => by show (if i < G.pfs.length then G.svs i else _) = _; rw [if_pos hi]
  have hlen : (G.push B).pfs.length = G.pfs.length + 1 := by show (G.pfs ++ [_]).length = _; simp
  have lastp : (G.push B).ptr G.pfs.length = B := by show (if G.pfs.length < G.pfs.length then _ else B) = _; rw [if_neg (by omega)]
  have lastb : (G.push B).bvs G.pfs.length = .slice none 0 0 := by show (if G.pfs.length < G.pfs.length then _ else _) = _; rw [if_neg (by omega)]
  have lasts : (G.push B).svs G.pfs.length = .slice none 0 0 := by show (if G.pfs.length < G.pfs.length then _ else _) = _; rw [if_neg (by omega)]
  refine ⟨h.cur.congr hn.cur hpt, h.dur.congr hn.dur hpt, h.trees, h.row, fun x hx => (h.steps x hx).congr fun hk => hpt _ (hn.steps x hx hk), fun i hi => ?_, fun i j hi hj he => ?_, fun i j k hi hj h1 h2 => ?_, fun i j k hi hj h1 h2 => ?_⟩
  · rw [hlen] at hi
    by_cases hl : i < G.pfs.length
    · have := h.files i hl
      rw [hpt i hl, hbv i hl, hsv i hl]
      have e : (G.push B).pfs[i] = G.pfs[i] := by simp only [DiskG.push, List.getElem_append_left hl]
      rw [e]
      exact this
    · obtain rfl : i = G.pfs.length := by omega
      rw [lastp, lastb, lasts]
      have e : (G.push B).pfs[G.pfs.length]'(by rw [hlen]; omega) = ⟨[], []⟩ := by simp [DiskG.push]
      rw [e]
      exact ⟨hB, World.ownsRow_nil _ _ _ _, World.ownsRow_nil _ _ _ _⟩
  · rw [hlen] at hi hj
    by_cases hl : i < G.pfs.length <;> by_cases hl2 : j < G.pfs.length
    · rw [hpt i hl, hpt j hl2] at he; exact h.inj i j hl hl2 he
    · obtain rfl : j = G.pfs.length := by omega
      rw [hpt i hl, lastp] at he; exact absurd he (hnew i hl)
    · obtain rfl : i = G.pfs.length := by omega
      rw [hpt j hl2, lastp] at he; exact absurd he.symm (hnew j hl2)
    · omega
  · rw [hlen] at hi hj
    by_cases hl : i < G.pfs.length
    · by_cases hl2 : j < G.pfs.length
      · rw [hbv i hl] at h1; rw [hbv j hl2] at h2; exact h.bytes i j k hl hl2 h1 h2
      · obtain rfl : j = G.pfs.length := by omega
        rw [lastb] at h2; cases h2
    · obtain rfl : i = G.pfs.length := by omega
      rw [lastb] at h1; cases h1
  · rw [hlen] at hi hj
    by_cases hl : i < G.pfs.length
    · by_cases hl2 : j < G.pfs.length
      · rw [hsv i hl] at h1; rw [hsv j hl2] at h2; exact h.rows i j k hl hl2 h1 h2
      · obtain rfl : j = G.pfs.length := by omega
        rw [lasts] at h2; cases h2
    · obtain rfl : i = G.pfs.length := by omega
      rw [lasts] at h1; cases h1

theorem DiskAt.push {w : World} {D : Nat} {G : DiskG} (h : DiskAt w D G) (hn : NumsOk G) {B : Nat} (hB : w.heap[B]? = some (.cells #[.slice none 0 0, .slice none 0 0] 94)) (hnew : ∀ i, i < G.pfs.length → G.ptr i ≠ B) : DiskAt w D (G.push B) := ⟨h.block, h.parts.push hn hB hnew⟩

theorem Parts.unpush {w : World} {G : DiskG} {B : Nat} (h : Parts w (G.push B)) (hn : NumsOk G) : Parts w G := by
  have hpt : ∀ i, i < G.pfs.length → G.ptr i = (G.push B).ptr i := fun i hi => by show _ = (if i < G.pfs.length then G.ptr i else B); rw [if_pos hi]
  have hbv : ∀ i, i < G.pfs.length → G.bvs i = (G.push B).bvs i := fun i hi => by show _ = (if i < G.pfs.length then G.bvs i else _); rw [if_pos hi]
  have hsv : ∀ i, i < G.pfs.length → G.svs i = (G.push B).svs i := fun i hi => by show _ = (if i < G.pfs.length then G.svs i else _); rw [if_pos hi]
  have hlen : ∀ i, i < G.pfs.length → i < (G.push B).pfs.length := fun i hi => by show i < (G.pfs ++ [_]).length; simp; omega
  refine ⟨TreeAt.congr (n := G.pfs.length) h.cur hn.cur hpt, TreeAt.congr (n := G.pfs.length) h.dur hn.dur hpt, h.trees, h.row, fun x hx => (h.steps x hx).congr fun hk => hpt _ (hn.steps x hx hk), fun i hi => ?_, fun i j hi hj he => ?_, fun i j k hi hj h1 h2 => ?_, fun i j k hi hj h1 h2 => ?_⟩
  · have := h.files i (hlen i hi)
    rw [hpt i hi, hbv i hi, hsv i hi]
    have e : (G.push B).pfs[i]'(hlen i hi) = G.pfs[i] := by simp only [DiskG.push, List.getElem_append_left hi]
    rw [e] at this
    exact this
  · exact h.inj i j (hlen i hi) (hlen j hj) (by rw [← hpt i hi, ← hpt j hj]; exact he)
  · exact h.bytes i j k (hlen i hi) (hlen j hj) (by rw [← hbv i hi]; exact h1) (by rw [← hbv j hj]; exact h2)
  · exact h.rows i j k (hlen i hi) (hlen j hj) (by rw [← hsv i hi]; exact h1) (by rw [← hsv j hj]; exact h2)

theorem own_files_push {G : DiskG} {B k : Nat} (h : ∃ i, i < (G.push B).pfs.length ∧ fileOwn ((G.push B).ptr i) ((G.push B).bvs i) ((G.push B).svs i) k) : (∃ i, i < G.pfs.length ∧ fileOwn (G.ptr i) (G.bvs i) (G.svs i) k) ∨ k = B := by
  obtain ⟨i, hi, hk⟩ := h
  have hlen : (G.push B).pfs.length = G.pfs.length + 1 := by show (G.pfs ++ [_]).length = _; simp
  rw [hlen] at hi
  by_cases hl : i < G.pfs.length
  · left
    refine ⟨i, hl, ?_⟩
    have e1 : (G.push B).ptr i = G.ptr i := by show (if i < G.pfs.length then G.ptr i else B) = _; rw [if_pos hl]
    have e2 : (G.push B).bvs i = G.bvs i := by show (if i < G.pfs.length then G.bvs i else _) = _; rw [if_pos hl]
    have e3 : (G.push B).svs i = G.svs i := by show (if i < G.pfs.length then G.svs i else _) = _; rw [if_pos hl]
    rw [e1, e2, e3] at hk
    exact hk
  · right
    have e1 : (G.push B).ptr i = B := by show (if i < G.pfs.length then G.ptr i else B) = _; rw [if_neg hl]
    have e2 : (G.push B).bvs i = .slice none 0 0 := by show (if i < G.pfs.length then G.bvs i else _) = _; rw [if_neg hl]
    have e3 : (G.push B).svs i = .slice none 0 0 := by show (if i < G.pfs.length then G.svs i else _) = _; rw [if_neg hl]
    rw [e1, e2, e3] at hk
    rcases hk with hk | hk | hk
    · exact hk
    · cases hk
    · cases hk

theorem own_push {G : DiskG} {D B k : Nat} (h : (G.push B).own D k) : G.own D k ∨ k = B := by
  rcases h with h | h | h | h | h | h
  · exact .inl (.inl h)
  · exact .inl (.inr (.inl h))
  · exact .inl (.inr (.inr (.inl h)))
  · exact .inl (.inr (.inr (.inr (.inl h))))
  · exact .inl (.inr (.inr (.inr (.inr (.inl h)))))
  · rcases own_files_push h with h | h
    · exact .inl (.inr (.inr (.inr (.inr (.inr h)))))
    · exact .inr h

/-- what create answers -/
def createCode (G : DiskG) (p : ByteArray) : Nat :=
  if G.off then 1 else if isPath p = false then 2 else if isFolderG G.gc (dirOf p) = false then 4 else if existsG G.gc p = true then 5 else if G.crash = 1 then 1 else 0

theorem dirOf_size (p : ByteArray) : (dirOf p).size ≤ p.size := by
  unfold dirOf; split
  · rw [ByteArray.size_extract]; have := sl_le p; omega
  · exact Nat.zero_le _

/-- the disk behind create -/
def Created (w : World) (G : DiskG) (p : ByteArray) (c : Nat) (G' : DiskG) : Prop :=
  (c ≠ 0 ∧ Refused G c G') ∨
  (c = 0 ∧ ∃ B v bs, w.heap.size ≤ B ∧ PutTo G.gc G'.gc (dirOf p) (baseOf p) G.pfs.length ∧ G'.steps = G.steps ++ [⟨⟨2, p, ByteArray.empty, G.pfs.length⟩, v, bs⟩] ∧
    G'.gd = G.gd ∧ G'.ptr = (G.push B).ptr ∧ G'.pfs = (G.push B).pfs ∧ G'.bvs = (G.push B).bvs ∧ G'.svs = (G.push B).svs ∧ G'.cap = G.cap ∧ G'.used = G.used ∧ G'.off = G.off ∧ G'.crash = G.crash - 1)

theorem _root_.Go.RowKit.Below.drewN {B : Nat} {a w : World} (h : Below B a w) (n : Nat) : Below B a (w.drewN n) := ⟨h.os, h.tape, h.output, h.size, h.block⟩

theorem quiet_plus {P : Program} {f : FuncId} {args : Array Value} {w : World} {n a : Nat} {v : Value} (h : Calls P f args (w.drewN (n + a)) fun e w' => e = .returned v ∧ ∃ m, w' = (w.drewN (n + a)).drewN m) :
    Calls P f args (w.drewN (n + a)) fun e w'' => e = .returned v ∧ ∃ m, w'' = w.drewN (n + m) :=
  h.mono fun _ _ ⟨he, m, hm⟩ => ⟨he, a + m, by rw [hm, World.drewN_drewN, Nat.add_assoc]⟩
theorem quiet_plus_same {P : Program} {f : FuncId} {args : Array Value} {w : World} {n a : Nat} {v : Value} (h : Calls P f args (w.drewN (n + a)) fun e w' => e = .returned v ∧ w' = w.drewN (n + a)) :
    Calls P f args (w.drewN (n + a)) fun e w'' => e = .returned v ∧ ∃ m, w'' = w.drewN (n + m) :=
  h.mono fun _ _ ⟨he, hm⟩ => ⟨he, a, hm⟩

theorem max_of_heap {w w' : World} (h : Max w) (hh : w'.heap = w.heap) : Max w' := by
  obtain ⟨m, hm⟩ := h
  exact ⟨m, by rw [World.cell?_of_block (w := w) (by rw [hh])]; exact hm⟩

/-- the look-ups, in every world that holds the same -/
theorem looks {w : World} {D : Nat} {G : DiskG} (h : DiskAt w D G) (hm : Max w) (p : ByteArray) (hp : p.size < 4294967281) :
    (∀ W : World, W.heap = w.heap → Calls Tryz.prog 91 #[.string p] W fun e w' => e = .returned (.bool (isPath p)) ∧ ∃ n, w' = W.drewN n) ∧
    (∀ W : World, W.heap = w.heap → Calls Tryz.prog 92 #[.string p] W fun e w' => e = .returned (.string (dirOf p)) ∧ ∃ n, w' = W.drewN n) ∧
    (∀ W : World, ∀ d, W.heap = w.heap → Calls Tryz.prog 57 #[.pointer (some ⟨D, 0, none⟩), .string d] W fun e w' => e = .returned (.bool (isFolderG G.gc d)) ∧ w' = W) ∧
    (∀ W : World, W.heap = w.heap → Calls Tryz.prog 93 #[.pointer (some ⟨D, 0, none⟩), .string p] W fun e w' => e = .returned (.bool (existsG G.gc p)) ∧ ∃ n, w' = W.drewN n) ∧
    (∀ W : World, W.heap = w.heap → Calls Tryz.prog 48 #[.pointer (some ⟨D, 0, none⟩), .string p] W fun e w' => e = .returned (fileV G.ptr (fileOf G.gc p)) ∧ ∃ n, w' = W.drewN n) := by
  have ht : ∀ W : World, W.heap = w.heap → TreeAt W G.ptr G.gc := fun W hW => h.parts.cur.of_heap fun b _ => by rw [hW]
  have hc : ∀ W : World, W.heap = w.heap → W.cell? ⟨D, 0, none⟩ = some (topV G.gc) := fun W hW => by rw [World.cell?_of_block (w := w) (by rw [hW])]; exact h.cell 0
  exact ⟨fun W hW => isPath_any p hp W (max_of_heap hm hW), fun W hW => folderOf_any p hp W (max_of_heap hm hW), fun W d hW => (isFolder_any (ht W hW) D 0 (hc W hW) d).mono fun _ _ ⟨h1, h2⟩ => ⟨h1, h2.symm⟩,
    fun W hW => exists_any (ht W hW) D 0 (hc W hW) p hp (max_of_heap hm hW), fun W hW => file_any (ht W hW) D 0 (hc W hW) p hp (max_of_heap hm hW)⟩

/-- the world in which the new file's step is made -/
def made (w : World) (p : ByteArray) (N : Nat) : World :=
  (((w.alloc (.cells #[.string p] 9)).drewN N).alloc (.cells #[.slice none 0 0, .slice none 0 0] 94)).alloc (.cells #[.pointer (some ⟨w.heap.size + 1, 0, none⟩)] 88)

theorem made_below (w : World) (p : ByteArray) (N : Nat) : Below w.heap.size w (made w p N) := by
  have h1 : Below w.heap.size w ((w.alloc (.cells #[.string p] 9)).drewN N) := (below_alloc w _).drewN N
  have s1 := h1.size
  exact (h1.alloc s1 _).alloc (by simp; omega) _

theorem create_step {w : World} {D : Nat} {G : DiskG} {E : Nat → Addr} (h : DiskAt w D G) (he : Env w E) (hn : NumsOk G) (hc : G.crash < 9223372036854775808) (hown : ∀ k, k < 8 → ¬ G.own D k) (hw8 : 8 ≤ w.heap.size) (hlen : G.steps.length < 1099511627776) (p : ByteArray) (hp : p.size < 4294967281) (N : Nat) :
    Calls Tryz.prog 94 #[.pointer (some ⟨D, 0, none⟩), .func (.func 95) #[] #[.pointer (some ⟨w.heap.size, 0, none⟩), .pointer (some ⟨w.heap.size + 1 + 1, 0, none⟩)]] (made w p N) fun r w' =>
      r = .returned (errV E (if G.crash = 1 then 1 else 0)) ∧ ∃ G', DiskAt w' D G' ∧ Turn (G.own D) w w' ∧ Created w G p (if G.crash = 1 then 1 else 0) G' ∧ (∀ k, G'.own D k → G.own D k ∨ w.heap.size ≤ k) := by
  have hB := made_below w p N
  have h4 := h.below hB
  have he4 : Env (made w p N) E := he.turn (Turn.of_below (S := fun _ => False) hB) (fun _ _ h => h)
  have z1 : (made w p N).heap[w.heap.size]? = some (.cells #[.string p] 9) := by
    unfold made
    rw [heap_alloc_old _ _ (by simp; omega), heap_alloc_old _ _ (by simp)]
    exact heap_alloc_new w _
  have z2 : (made w p N).heap[w.heap.size + 1]? = some (.cells #[.slice none 0 0, .slice none 0 0] 94) := by
    unfold made
    rw [heap_alloc_old _ _ (by simp)]
    have := heap_alloc_new ((w.alloc (.cells #[.string p] 9)).drewN N) (.cells #[.slice none 0 0, .slice none 0 0] 94)
    simpa using this
  have z3 : (made w p N).heap[w.heap.size + 1 + 1]? = some (.cells #[.pointer (some ⟨w.heap.size + 1, 0, none⟩)] 88) := by
    have := heap_alloc_new (((w.alloc (.cells #[.string p] 9)).drewN N).alloc (.cells #[.slice none 0 0, .slice none 0 0] 94)) (.cells #[.pointer (some ⟨w.heap.size + 1, 0, none⟩)] 88)
    unfold made
    simpa using this
  have h5 := h4.push hn z2 (fun i hi e => by have := (h.parts.files i hi).lt; omega)
  have hst : StepAt (made w p N) (G.push (w.heap.size + 1)).ptr (.func (.func 95) #[] #[lbox w.heap.size, lbox (w.heap.size + 1 + 1)]) [w.heap.size, w.heap.size + 1 + 1] ⟨2, p, ByteArray.empty, G.pfs.length⟩ := by
    refine .inr (.inl ⟨_, _, rfl, rfl, rfl, z1, ?_⟩)
    unfold BoxP ptrV
    have e : (G.push (w.heap.size + 1)).ptr G.pfs.length = w.heap.size + 1 := by show (if G.pfs.length < G.pfs.length then _ else _) = _; rw [if_neg (by omega)]
    rw [e]
    exact z3
  have hlt := fun k => Parts.own_lt h k
  have hown5 : ∀ k, k < 8 → ¬ (G.push (w.heap.size + 1)).own D k := fun k hk hh => by
    rcases own_push hh with hh | hh
    · exact hown k hk hh
    · omega
  have hch := change_any h5 he4 hc hown5 hlen hst ⟨fun hk => (by cases hk), hp, (by show ByteArray.empty.size < 4294967281; decide), fun hk => (by cases hk)⟩ (fun b hb => by
    have hDl := h.lt
    simp at hb
    refine ⟨by omega, fun hb2 => ?_⟩
    have := h.parts.cur.lt b hb2
    omega)
  refine hch.mono fun r w' hh => ?_
  have hs4 := hB.size
  have turn : ∀ {S : Nat → Prop} {a : World}, Turn S (made w p N) a → (∀ k, k < w.heap.size → S k → G.own D k) → Turn (G.own D) w a := fun {S a} ht hS => (Turn.of_below hB).trans ht hS
  rcases hh with ⟨c1, rfl, hd, ht⟩ | ⟨c1, rfl, G', hd, ht, hap, hst', hrest, hbl, hnv⟩
  · have c1 : G.crash = 1 := c1
    rw [if_pos c1]
    refine ⟨rfl, { G with off := true }, ⟨hd.block, ?_⟩, turn ht (fun k _ hk => .inl hk), .inl ⟨by decide, .inr ⟨c1, rfl, rfl⟩⟩, fun k hk => .inl hk⟩
    have hu : Parts w' ((G.push (w.heap.size + 1))) := hd.parts.with rfl rfl rfl rfl rfl rfl rfl rfl
    exact (hu.unpush hn).with rfl rfl rfl rfl rfl rfl rfl rfl
  · have c1 : ¬ G.crash = 1 := c1
    rw [if_neg c1]
    obtain ⟨r1, r2, r3, r4, r5, r6, r7, r8, r9⟩ := hrest
    refine ⟨rfl, G', hd, turn ht (fun k hk hh => by rcases own_push hh with hh | hh; exact hh; omega), .inr ⟨rfl, w.heap.size + 1, _, _, by omega, ?_, hst', r1, r2, r3, r4, r5, r6, r7, r8, r9⟩, fun k hk => ?_⟩
    · rcases hap with ⟨hk, _⟩ | ⟨_, hput⟩ | ⟨hk, _⟩ | ⟨hk, _⟩
      · cases hk
      · exact hput
      · cases hk
      · cases hk
    · rcases hk with hk | hk | hk | hk | ⟨x, hx, hk⟩ | hk
      · exact .inl (.inl hk)
      · rcases hbl k hk with h1 | h1
        · exact .inl (.inr (.inl h1))
        · exact .inr (by omega)
      · rw [r1] at hk; exact .inl (.inr (.inr (.inl hk)))
      · rcases hnv with h1 | ⟨j, h1, h2⟩
        · rw [h1] at hk; exact .inl (.inr (.inr (.inr (.inl hk))))
        · rw [h1] at hk; injection hk with hk; exact .inr (by omega)
      · rw [hst'] at hx
        rcases List.mem_append.1 hx with hx | hx
        · exact .inl (.inr (.inr (.inr (.inr (.inl ⟨x, hx, hk⟩)))))
        · simp at hx
          subst hx
          simp at hk
          exact .inr (by omega)
      · obtain ⟨i, hi, hk⟩ := hk
        rw [r2, r4, r5] at hk
        rw [r3] at hi
        rcases own_files_push ⟨i, hi, hk⟩ with h1 | h1
        · exact .inl (.inr (.inr (.inr (.inr (.inr h1)))))
        · exact .inr (by omega)

set_option maxRecDepth 100000 in
set_option maxHeartbeats 4000000 in
theorem create_any {w : World} {D : Nat} {G : DiskG} {E : Nat → Addr} (h : DiskAt w D G) (he : Env w E) (hn : NumsOk G) (hc : G.crash < 9223372036854775808) (hown : ∀ k, k < 8 → ¬ G.own D k) (hw8 : 8 ≤ w.heap.size) (hlen : G.steps.length < 1099511627776) (p : ByteArray) (hp : p.size < 4294967281) :
    Calls Tryz.prog 63 #[.pointer (some ⟨D, 0, none⟩), .string p] w fun r w' =>
      r = .returned (errV E (createCode G p)) ∧ ∃ G', DiskAt w' D G' ∧ Turn (G.own D) w w' ∧ Created w G p (createCode G p) G' ∧ (∀ k, G'.own D k → G.own D k ∨ w.heap.size ≤ k) := by
  have hbel : Below w.heap.size w (w.alloc (.cells #[.string p] 9)) := below_alloc _ _
  have h1 := h.below hbel
  have he1 : Env (w.alloc (.cells #[.string p] 9)) E := he.turn (Turn.of_below (S := fun _ => False) hbel) (fun _ _ h => h)
  have hoff := off_any h1
  obtain ⟨l1, l2, l3, l4, _⟩ := looks h1 he1.max p hp
  have l3 := fun W => l3 W (dirOf p)
  have g0 := he1.off
  have g1 := he1.name
  have g3 := he1.missing
  have g4 := he1.exists'
  have hcs := fun N => create_step h he hn hc hown hw8 hlen p hp N
  simp only [made] at hcs
  obtain ⟨cc, hcc⟩ : ∃ cc : Nat, (if G.crash = 1 then 1 else 0) = cc := ⟨_, rfl⟩
  simp only [hcc] at hcs
  have HCC := Lib.hid hcc
  have HCS := Lib.hid hcs
  have H1 := Lib.hid h1
  have HB := Lib.hid hbel
  unfold createCode
  clear h he he1 hn hc hown hlen h1 hbel hp hcs hcc
  cases ho : G.off
  · rw [ho] at hoff
    rw [if_neg (by decide)]
    have L1 := Lib.hid l1
    have L2 := Lib.hid l2
    have L3 := Lib.hid l3
    have L4 := Lib.hid l4
    clear l1 l2 l3 l4
    cases hP : isPath p
    · rw [if_pos rfl]
      rw [hP] at L1
      unfold errV at g1 ⊢
      go_enter Tryz.func63, Tryz.ntmps63
      go_wp2_with (first | (go_at_call 16; refine hoff.mono ?_; rintro r w2 ⟨rfl, rfl⟩) | (go_at_call 91; ((with_reducible refine (L1.out _ (by rfl)).mono ?_); rintro r w2 ⟨rfl, n, rfl⟩)))
      go_ret
      exact ⟨rfl, G, H1.out.below ((Below.refl _ _).drewN n), Turn.of_below (HB.out.drewN n), .inl ⟨by decide, .inl ⟨rfl, .inr (by decide)⟩⟩, fun k hk => .inl hk⟩
    · rw [if_neg (by decide)]
      rw [hP] at L1
      cases hF : isFolderG G.gc (dirOf p)
      · rw [if_pos rfl]
        rw [hF] at L3
        unfold errV at g3 ⊢
        go_enter Tryz.func63, Tryz.ntmps63
        go_wp2_with (first | (go_at_call 16; refine hoff.mono ?_; rintro r w2 ⟨rfl, rfl⟩) | (go_at_call 91; ((with_reducible refine (L1.out _ (by rfl)).mono ?_); rintro r w2 ⟨rfl, n, rfl⟩)))
        go_quiet (first | exact quiet_plus (L2.out _ (by rfl)) | exact quiet_plus_same (L3.out _ (by rfl)))
        go_wp2
        go_ret
        exact ⟨rfl, G, H1.out.below ((Below.refl _ _).drewN _), Turn.of_below (HB.out.drewN _), .inl ⟨by decide, .inl ⟨rfl, .inr (by decide)⟩⟩, fun k hk => .inl hk⟩
      · rw [if_neg (by decide)]
        rw [hF] at L3
        cases hX : existsG G.gc p
        · rw [if_neg (by decide)]
          rw [hX] at L4
          rw [HCC.out]
          go_enter Tryz.func63, Tryz.ntmps63
          go_wp2_with (first | (go_at_call 16; refine hoff.mono ?_; rintro r w2 ⟨rfl, rfl⟩) | (go_at_call 91; ((with_reducible refine (L1.out _ (by rfl)).mono ?_); rintro r w2 ⟨rfl, n, rfl⟩)))
          go_quiet (first | exact quiet_plus (L2.out _ (by rfl)) | exact quiet_plus_same (L3.out _ (by rfl)))
          go_wp2_with fail
          go_quiet (exact quiet_plus (L4.out _ (by rfl)))
          go_wp2_with (go_at_call 94; ((with_reducible refine (HCS.out _).mono ?_); rintro r w2 ⟨rfl, G', hG⟩))
          go_ret
          exact ⟨rfl, G', hG⟩
        · rw [if_pos rfl]
          rw [hX] at L4
          unfold errV at g4 ⊢
          go_enter Tryz.func63, Tryz.ntmps63
          go_wp2_with (first | (go_at_call 16; refine hoff.mono ?_; rintro r w2 ⟨rfl, rfl⟩) | (go_at_call 91; ((with_reducible refine (L1.out _ (by rfl)).mono ?_); rintro r w2 ⟨rfl, n, rfl⟩)))
          go_quiet (first | exact quiet_plus (L2.out _ (by rfl)) | exact quiet_plus_same (L3.out _ (by rfl)))
          go_wp2_with fail
          go_quiet (exact quiet_plus (L4.out _ (by rfl)))
          go_wp2
          go_ret
          exact ⟨rfl, G, H1.out.below ((Below.refl _ _).drewN _), Turn.of_below (HB.out.drewN _), .inl ⟨by decide, .inl ⟨rfl, .inr (by decide)⟩⟩, fun k hk => .inl hk⟩
  · rw [ho] at hoff
    rw [if_pos rfl]
    unfold errV at g0 ⊢
    have HOF := Lib.hid ho
    clear ho l1 l2 l3 l4
    go_enter Tryz.func63, Tryz.ntmps63
    go_wp2_with (go_at_call 16; refine hoff.mono ?_; rintro r w2 ⟨rfl, rfl⟩)
    go_ret
    exact ⟨rfl, G, H1.out, Turn.of_below HB.out, .inl ⟨by decide, .inl ⟨rfl, .inl HOF.out⟩⟩, fun k hk => .inl hk⟩

end Go.Proofs.YtmmlefbokplnnaaGreatDoor.Disk

namespace Go.Proofs.YtmmlefbokplnnaaGreatDoor.Disk
open Go.RowKit Go Go.Proofs.YtmmlefbokplnnaaGreatDoor.Base Go.Proofs.YtmmlefbokplnnaaGreatDoor.Map

/-- what open answers -/
def openCode (G : DiskG) (p : ByteArray) : Nat :=
  if G.off then 1 else if isPath p = false then 2 else if isFolderG G.gc p = true then 3 else if (fileOf G.gc p).isNone then 4 else 0
theorem openCode_off (G : DiskG) (p : ByteArray) : G.off = true ∨ openCode G p ≠ 1 := by
  unfold openCode
  cases G.off
  · right
    rw [if_neg (by decide)]
    split
    · decide
    · split
      · decide
      · split <;> decide
  · exact .inl rfl
def openV (G : DiskG) (p : ByteArray) : Value := if openCode G p = 0 then fileV G.ptr (fileOf G.gc p) else .pointer none

theorem hpd (w : World) (n : Nat) : (w.drewN n).heap = w.heap := rfl

set_option maxRecDepth 100000 in
set_option maxHeartbeats 4000000 in
theorem open_any {w : World} {D : Nat} {G : DiskG} {E : Nat → Addr} (h : DiskAt w D G) (he : Env w E) (p : ByteArray) (hp : p.size < 4294967281) :
    Calls Tryz.prog 67 #[.pointer (some ⟨D, 0, none⟩), .string p] w fun r w' =>
      r = .returned (.tuple #[openV G p, errV E (openCode G p)]) ∧ ∃ n, w' = w.drewN n := by
  have hoff := off_any h
  obtain ⟨l1, _, l3, _, l5⟩ := looks h he.max p hp
  have l3' := fun W => l3 W p
  have g0 := he.off
  have g1 := he.name
  have g2 := he.kind
  have g3 := he.missing
  have L1 := Lib.hid l1
  have L3 := Lib.hid l3'
  have L5 := Lib.hid l5
  clear h he hp l1 l3 l3' l5
  cases ho : G.off
  · rw [ho] at hoff
    cases hP : isPath p
    · rw [hP] at L1
      have e1 : openCode G p = 2 := by simp [openCode, ho, hP]
      have e2 : openV G p = .pointer none := by simp [openV, e1]
      rw [e1, e2]
      unfold errV at g1 ⊢
      go_enter Tryz.func67, Tryz.ntmps67
      go_wp2_with (first | (go_at_call 16; refine hoff.mono ?_; rintro r w2 ⟨rfl, rfl⟩) | (go_at_call 91; ((with_reducible refine (L1.out _ (by first | rfl | exact hpd _ _)).mono ?_); rintro r w2 ⟨rfl, n, rfl⟩)))
      go_quiet (fail)
      go_wp2
      go_ret2
      exact ⟨rfl, _, by first | rfl | exact World.drewN_drewN _ _ _ | (rw [World.drewN_drewN, World.drewN_drewN])⟩
    · rw [hP] at L1
      cases hF : isFolderG G.gc p
      · rw [hF] at L3
        cases hX : fileOf G.gc p with
        | none =>
          rw [hX] at L5
          unfold fileV at L5
          have e1 : openCode G p = 4 := by simp [openCode, ho, hP, hF, hX]
          have e2 : openV G p = .pointer none := by simp [openV, e1]
          rw [e1, e2]
          unfold errV at g3 ⊢
          go_enter Tryz.func67, Tryz.ntmps67
          go_wp2_with (first | (go_at_call 16; refine hoff.mono ?_; rintro r w2 ⟨rfl, rfl⟩) | (go_at_call 91; ((with_reducible refine (L1.out _ (by first | rfl | exact hpd _ _)).mono ?_); rintro r w2 ⟨rfl, n, rfl⟩)) | (go_at_call 57; ((with_reducible refine (L3.out _ (by first | rfl | exact hpd _ _)).mono ?_); rintro r w2 ⟨rfl, rfl⟩)) | (go_at_call 48; ((with_reducible refine (L5.out _ (by first | rfl | exact hpd _ _)).mono ?_); rintro r w2 ⟨rfl, n2, rfl⟩)))
          go_quiet (fail)
          go_wp2
          go_ret2
          exact ⟨rfl, _, by first | rfl | exact World.drewN_drewN _ _ _ | (rw [World.drewN_drewN, World.drewN_drewN])⟩
        | some i =>
          rw [hX] at L5
          unfold fileV ptrV at L5
          have e1 : openCode G p = 0 := by simp [openCode, ho, hP, hF, hX]
          have e2 : openV G p = .pointer (some ⟨G.ptr i, 0, none⟩) := by simp [openV, e1, hX, fileV, ptrV]
          rw [e1, e2]
          unfold errV
          go_enter Tryz.func67, Tryz.ntmps67
          go_wp2_with (first | (go_at_call 16; refine hoff.mono ?_; rintro r w2 ⟨rfl, rfl⟩) | (go_at_call 91; ((with_reducible refine (L1.out _ (by first | rfl | exact hpd _ _)).mono ?_); rintro r w2 ⟨rfl, n, rfl⟩)) | (go_at_call 57; ((with_reducible refine (L3.out _ (by first | rfl | exact hpd _ _)).mono ?_); rintro r w2 ⟨rfl, rfl⟩)) | (go_at_call 48; ((with_reducible refine (L5.out _ (by first | rfl | exact hpd _ _)).mono ?_); rintro r w2 ⟨rfl, n2, rfl⟩)))
          go_ret2
          exact ⟨rfl, _, by first | rfl | exact World.drewN_drewN _ _ _ | (rw [World.drewN_drewN, World.drewN_drewN])⟩
      · rw [hF] at L3
        have e1 : openCode G p = 3 := by simp [openCode, ho, hP, hF]
        have e2 : openV G p = .pointer none := by simp [openV, e1]
        rw [e1, e2]
        unfold errV at g2 ⊢
        go_enter Tryz.func67, Tryz.ntmps67
        go_wp2_with (first | (go_at_call 16; refine hoff.mono ?_; rintro r w2 ⟨rfl, rfl⟩) | (go_at_call 91; ((with_reducible refine (L1.out _ (by first | rfl | exact hpd _ _)).mono ?_); rintro r w2 ⟨rfl, n, rfl⟩)) | (go_at_call 57; ((with_reducible refine (L3.out _ (by first | rfl | exact hpd _ _)).mono ?_); rintro r w2 ⟨rfl, rfl⟩)))
        go_quiet (fail)
        go_wp2
        go_ret2
        exact ⟨rfl, _, by first | rfl | exact World.drewN_drewN _ _ _ | (rw [World.drewN_drewN, World.drewN_drewN])⟩
  · rw [ho] at hoff
    have e1 : openCode G p = 1 := by simp [openCode, ho]
    have e2 : openV G p = .pointer none := by simp [openV, e1]
    rw [e1, e2]
    unfold errV at g0 ⊢
    go_enter Tryz.func67, Tryz.ntmps67
    go_wp2_with (first | (go_at_call 16; refine hoff.mono ?_; rintro r w2 ⟨rfl, rfl⟩))
    go_quiet (fail)
    go_wp2
    go_ret2
    exact ⟨rfl, _, by first | rfl | exact World.drewN_drewN _ _ _ | (rw [World.drewN_drewN, World.drewN_drewN])⟩

/-- an error in memory: the code, the call's word, the path -/
def ErrAt (w : World) (E : Nat → Addr) (r : Value) (c : Nat) (op path : ByteArray) : Prop :=
  (c = 0 ∧ r = .nilIface) ∨ (c ≠ 0 ∧ ∃ B, r = .iface 111 (.pointer (some ⟨B, 0, none⟩)) ∧ w.heap[B]? = some (.cells #[.string op, .string path, errV E c] 114))

theorem refused_err (op path : ByteArray) (E : Nat → Addr) (c : Nat) (w : World) : Calls Tryz.prog 55 #[.string op, .string path, errV E c] w fun e w' =>
    ∃ r, e = .returned r ∧ ErrAt w' E r c op path ∧ Below w.heap.size w w' := by
  refine (refused_any op path E c w).mono fun e w' ⟨h1, h2⟩ => ?_
  cases c with
  | zero => rw [if_pos rfl] at h2; subst h2; exact ⟨_, h1, .inl ⟨rfl, rfl⟩, Below.refl _ _⟩
  | succ c =>
    rw [if_neg (by omega)] at h2; subst h2
    exact ⟨_, h1, .inr ⟨by omega, _, rfl, heap_alloc_new _ _⟩, below_alloc _ _⟩

end Go.Proofs.YtmmlefbokplnnaaGreatDoor.Disk

namespace Go.Proofs.YtmmlefbokplnnaaGreatDoor.Disk
open Go.RowKit Go Go.Proofs.YtmmlefbokplnnaaGreatDoor.Base Go.Proofs.YtmmlefbokplnnaaGreatDoor.Map

def upd {α : Type} (f : Nat → α) (i : Nat) (v : α) : Nat → α := fun j => if j = i then v else f j
theorem upd_same {α : Type} (f : Nat → α) (i : Nat) (v : α) : upd f i v i = v := by simp [upd]
theorem upd_other {α : Type} (f : Nat → α) {i j : Nat} (v : α) (h : j ≠ i) : upd f i v j = f j := by simp [upd, h]

def DiskG.file (G : DiskG) (i : Nat) (p : PF) (bv sv : Value) : DiskG := { G with pfs := G.pfs.set i p, bvs := upd G.bvs i bv, svs := upd G.svs i sv }

def locOk (w : World) (v v' : Value) : Prop := v'.ownBlock = v.ownBlock ∨ v'.ownBlock = none ∨ ∃ k, v'.ownBlock = some k ∧ w.heap.size ≤ k

theorem DiskAt.filed {w w' : World} {D : Nat} {G : DiskG} (h : DiskAt w D G) {i : Nat} (hi : i < G.pfs.length) {p : PF} {bv sv : Value} (hf : FileAt w' (G.ptr i) bv sv p) (ht : Turn (fileOwn (G.ptr i) (G.bvs i) (G.svs i)) w w') (hb : locOk w (G.bvs i) bv) (hs : locOk w (G.svs i) sv) :
    DiskAt w' D (G.file i p bv sv) := by
  obtain ⟨n1, n2, n3, n4, n5⟩ := h.parts.notD h.kind
  have hfi := h.parts.files i hi
  have hlen : (G.file i p bv sv).pfs.length = G.pfs.length := by show (G.pfs.set i p).length = _; simp
  have hD : w'.heap[D]? = w.heap[D]? := ht.block D h.lt fun hh => n5 i hi D hh rfl
  have noM : ∀ k, isMap w k → ¬ fileOwn (G.ptr i) (G.bvs i) (G.svs i) k := fun k hk hh => by
    rcases hfi.kinds hh with h1 | h1 | h1 <;> exact h1.noMap hk
  refine ⟨hD.trans h.block, h.parts.cur.of_heap fun b hb' => ht.block b (h.parts.cur.lt b hb') (noM b (h.parts.cur.maps b hb')), h.parts.dur.of_heap fun b hb' => ht.block b (h.parts.dur.lt b hb') (noM b (h.parts.dur.maps b hb')), h.parts.trees, ?_, ?_, ?_, ?_, ?_, ?_⟩
  · refine row_turn h.parts.row ht fun k hk hh => ?_
    rcases hfi.kinds hh with h1 | h1 | h1 <;> exact h1.ne (row_kind h.parts.row hk) (by decide) rfl
  · intro x hx
    refine (h.parts.steps x hx).of_heap fun b hb' => ht.block b ((h.parts.steps x hx).lt b hb') fun hh => ?_
    rcases hfi.kinds hh with h1 | h1 | h1 <;> rcases (h.parts.steps x hx).kinds b hb' with h2 | h2 <;> exact h1.ne h2 (by decide) rfl
  · intro j hj
    rw [hlen] at hj
    by_cases hji : j = i
    · subst hji
      have e : (G.file j p bv sv).pfs[j]'(by rw [hlen]; exact hi) = p := by simp [DiskG.file]
      have e2 : (G.file j p bv sv).bvs j = bv := upd_same _ _ _
      have e3 : (G.file j p bv sv).svs j = sv := upd_same _ _ _
      rw [e, e2, e3]
      exact hf
    · have e : (G.file i p bv sv).pfs[j]'(by rw [hlen]; exact hj) = G.pfs[j] := by simp [DiskG.file, Ne.symm hji]
      have e2 : (G.file i p bv sv).bvs j = G.bvs j := upd_other _ _ hji
      have e3 : (G.file i p bv sv).svs j = G.svs j := upd_other _ _ hji
      rw [e, e2, e3]
      refine (h.parts.files j hj).turn ht fun k hk hh => ?_
      have hfj := h.parts.files j hj
      rcases hk with hk | hk | hk <;> rcases hh with hh | hh | hh
      · exact hji (h.parts.inj j i hj hi (by rw [← hk, ← hh]))
      · have h1 := row_kind hfi.bytes hh; exact h1.ne (⟨_, _, hfj.cells⟩ : isK w (G.ptr j) _) (by decide) hk
      · have h1 := row_kind hfi.steps hh; exact h1.ne (⟨_, _, hfj.cells⟩ : isK w (G.ptr j) _) (by decide) hk
      · have h1 := row_kind hfj.bytes hk; exact h1.ne (⟨_, _, hfi.cells⟩ : isK w (G.ptr i) _) (by decide) hh
      · exact hji (h.parts.bytes j i k hj hi hk hh)
      · exact (row_kind hfj.bytes hk).ne (row_kind hfi.steps hh) (by decide) rfl
      · have h1 := row_kind hfj.steps hk; exact h1.ne (⟨_, _, hfi.cells⟩ : isK w (G.ptr i) _) (by decide) hh
      · exact (row_kind hfj.steps hk).ne (row_kind hfi.bytes hh) (by decide) rfl
      · exact hji (h.parts.rows j i k hj hi hk hh)
  · intro a b ha hb'
    rw [hlen] at ha hb'
    exact h.parts.inj a b ha hb'
  · intro a b k ha hb' h1 h2
    rw [hlen] at ha hb'
    have key : ∀ c, c < G.pfs.length → c ≠ i → (G.bvs c).ownBlock = some k → bv.ownBlock = some k → False := fun c hc hci e1 e2 => by
      rcases hb with h3 | h3 | ⟨q, h3, h4⟩
      · exact hci (h.parts.bytes c i k hc hi e1 (by rw [← h3]; exact e2))
      · rw [h3] at e2; cases e2
      · rw [h3] at e2; injection e2 with e2; have := row_lt (h.parts.files c hc).bytes e1; omega
    by_cases hai : a = i <;> by_cases hbi : b = i
    · rw [hai, hbi]
    · exact absurd (key b hb' hbi (by have e : (G.file i p bv sv).bvs b = G.bvs b := upd_other _ _ hbi; rw [e] at h2; exact h2) (by subst hai; have e : (G.file a p bv sv).bvs a = bv := upd_same _ _ _; rw [e] at h1; exact h1)) id
    · exact absurd (key a ha hai (by have e : (G.file i p bv sv).bvs a = G.bvs a := upd_other _ _ hai; rw [e] at h1; exact h1) (by subst hbi; have e : (G.file b p bv sv).bvs b = bv := upd_same _ _ _; rw [e] at h2; exact h2)) id
    · have e : (G.file i p bv sv).bvs b = G.bvs b := upd_other _ _ hbi
      have e' : (G.file i p bv sv).bvs a = G.bvs a := upd_other _ _ hai
      rw [e] at h2; rw [e'] at h1
      exact h.parts.bytes a b k ha hb' h1 h2
  · intro a b k ha hb' h1 h2
    rw [hlen] at ha hb'
    have key : ∀ c, c < G.pfs.length → c ≠ i → (G.svs c).ownBlock = some k → sv.ownBlock = some k → False := fun c hc hci e1 e2 => by
      rcases hs with h3 | h3 | ⟨q, h3, h4⟩
      · exact hci (h.parts.rows c i k hc hi e1 (by rw [← h3]; exact e2))
      · rw [h3] at e2; cases e2
      · rw [h3] at e2; injection e2 with e2; have := row_lt (h.parts.files c hc).steps e1; omega
    by_cases hai : a = i <;> by_cases hbi : b = i
    · rw [hai, hbi]
    · exact absurd (key b hb' hbi (by have e : (G.file i p bv sv).svs b = G.svs b := upd_other _ _ hbi; rw [e] at h2; exact h2) (by subst hai; have e : (G.file a p bv sv).svs a = sv := upd_same _ _ _; rw [e] at h1; exact h1)) id
    · exact absurd (key a ha hai (by have e : (G.file i p bv sv).svs a = G.svs a := upd_other _ _ hai; rw [e] at h1; exact h1) (by subst hbi; have e : (G.file b p bv sv).svs b = sv := upd_same _ _ _; rw [e] at h2; exact h2)) id
    · have e : (G.file i p bv sv).svs b = G.svs b := upd_other _ _ hbi
      have e' : (G.file i p bv sv).svs a = G.svs a := upd_other _ _ hai
      rw [e] at h2; rw [e'] at h1
      exact h.parts.rows a b k ha hb' h1 h2

/-- what a file's turning leaves to the disk -/
theorem own_file {w : World} {D : Nat} {G : DiskG} {i : Nat} (hi : i < G.pfs.length) {p : PF} {bv sv : Value} (hb : locOk w (G.bvs i) bv) (hs : locOk w (G.svs i) sv) {k : Nat} (hk : (G.file i p bv sv).own D k) : G.own D k ∨ w.heap.size ≤ k := by
  rcases hk with hk | hk | hk | hk | hk | ⟨j, hj, hk⟩
  · exact .inl (.inl hk)
  · exact .inl (.inr (.inl hk))
  · exact .inl (.inr (.inr (.inl hk)))
  · exact .inl (.inr (.inr (.inr (.inl hk))))
  · exact .inl (.inr (.inr (.inr (.inr (.inl hk)))))
  · have hj : j < G.pfs.length := by have : (G.file i p bv sv).pfs.length = G.pfs.length := by show (G.pfs.set i p).length = _; simp
                                     omega
    have old : fileOwn (G.ptr j) (G.bvs j) (G.svs j) k → G.own D k := fun h => .inr (.inr (.inr (.inr (.inr ⟨j, hj, h⟩))))
    by_cases hji : j = i
    · subst hji
      have e2 : (G.file j p bv sv).bvs j = bv := upd_same _ _ _
      have e3 : (G.file j p bv sv).svs j = sv := upd_same _ _ _
      rw [e2, e3] at hk
      rcases hk with hk | hk | hk
      · exact .inl (old (.inl hk))
      · rcases hb with h3 | h3 | ⟨q, h3, h4⟩
        · rw [h3] at hk; exact .inl (old (.inr (.inl hk)))
        · rw [h3] at hk; cases hk
        · rw [h3] at hk; injection hk with hk; exact .inr (by omega)
      · rcases hs with h3 | h3 | ⟨q, h3, h4⟩
        · rw [h3] at hk; exact .inl (old (.inr (.inr hk)))
        · rw [h3] at hk; cases hk
        · rw [h3] at hk; injection hk with hk; exact .inr (by omega)
    · have e2 : (G.file i p bv sv).bvs j = G.bvs j := upd_other _ _ hji
      have e3 : (G.file i p bv sv).svs j = G.svs j := upd_other _ _ hji
      rw [e2, e3] at hk
      exact .inl (old hk)

theorem remainder_any (n : Int) (by' : Nat) (hn : -9223372036854775808 ≤ n ∧ n ≤ 9223372036854775807) (hb : 0 < by') (hb2 : by' < 4611686018427387904) (w : World) : Calls Tryz.prog 45 #[.int .i64 n, .int .i64 (by' : Int)] w fun e w' => e = .returned (.int .i64 ((share n (by' - 1) : Nat) : Int)) ∧ w = w' := by
  have e1 : share n (by' - 1) = if n < 0 then 0 else n.toNat % by' := by unfold share; rw [show by' - 1 + 1 = by' from by omega]
  have hbi : ¬ (by' : Int) = 0 := by omega
  have hm : (max n 0).tmod (by' : Int) = ((share n (by' - 1) : Nat) : Int) := by
    rw [Int.tmod_eq_emod_of_nonneg (by omega), e1]
    split
    · rename_i h; rw [show max n 0 = 0 from by omega]; simp
    · rename_i h
      rw [show max n 0 = ((n.toNat : Nat) : Int) from by omega, ← Int.natCast_emod]
  have Hn := Lib.hid hn
  clear hn
  go_enter Tryz.func45, Tryz.ntmps45
  go_wp2
  all_goals
    go_ret
    exact ⟨rfl, rfl⟩

/-- a disk as New makes it -/
def newG (c : Int) : DiskG := { gc := ⟨none, []⟩, gd := ⟨none, []⟩, ptr := fun _ => 0, pfs := [], bvs := fun _ => .slice none 0 0, svs := fun _ => .slice none 0 0, steps := [], nv := .slice none 0 0, cap := (min (max c 0) 67108864).toNat, used := 0, off := false, crash := 0 }

theorem new_any (c : Int) (w : World) : Calls Tryz.prog 8 #[.int .i64 c] w fun e w' => e = .returned (.pointer (some ⟨w.heap.size, 0, none⟩)) ∧ DiskAt w' w.heap.size (newG c) ∧ Below w.heap.size w w' := by
  have hcap : min (max c 0) 67108864 = (((min (max c 0) 67108864).toNat : Nat) : Int) := by omega
  have hd : DiskAt (w.alloc (.cells (newG c).cells 63)) w.heap.size (newG c) := by
    have t0 : TreeAt (w.alloc (.cells (newG c).cells 63)) (fun _ => 0) ⟨none, []⟩ := ⟨fun _ => rfl, fun fm h => (by cases h), fun x hx => (by cases hx), (by simp [TreeG.blocks])⟩
    exact ⟨heap_alloc_new w _, ⟨t0, t0, fun b hb => (by simp [TreeG.blocks, newG] at hb), World.ownsRow_nil _ _ _ _, fun x hx => (by cases hx), fun i hi => (by cases hi), fun i j hi => (by cases hi), fun i j k hi => (by cases hi), fun i j k hi => (by cases hi)⟩⟩
  have HD := Lib.hid hd
  have HC := Lib.hid hcap
  clear hd hcap
  go_enter Tryz.func8, Tryz.ntmps8
  go_wp2
  go_ret
  have e : (newG c).cells = #[.map none, .map none, .slice none 0 0, .int .i64 (min (max c 0) 67108864), .int .i64 0, .bool false, .int .i64 0] := by
    unfold newG DiskG.cells topV
    simp only
    rw [← HC.out]
    rfl
  have := HD.out
  rw [e] at this
  exact ⟨rfl, this, below_alloc _ _⟩

theorem used_nil (w : World) : Calls Tryz.prog 15 #[.pointer none] w fun e w' => e = .returned (.int .i64 0) ∧ w = w' := by
  have h := off_nil w
  go_enter Tryz.func15, Tryz.ntmps15
  go_wp2_with (go_at_call 16; refine h.mono ?_; rintro r w2 ⟨rfl, rfl⟩)
  go_ret
  exact ⟨rfl, rfl⟩

theorem used_any {w : World} {D : Nat} {G : DiskG} (h : DiskAt w D G) : Calls Tryz.prog 15 #[.pointer (some ⟨D, 0, none⟩)] w fun e w' => e = .returned (.int .i64 (if G.off then 0 else (G.used : Int))) ∧ w = w' := by
  have c4 : w.cell? ⟨D, 4, none⟩ = some (.int .i64 (G.used : Int)) := h.cell 4
  have ho := off_any h
  clear h
  cases hof : G.off
  all_goals
    rw [hof] at ho
    go_enter Tryz.func15, Tryz.ntmps15
    go_wp2_with (go_at_call 16; refine ho.mono ?_; rintro r w2 ⟨rfl, rfl⟩)
    go_ret
    exact ⟨rfl, rfl⟩

/-- Create -/
theorem Create_any {w : World} {D : Nat} {G : DiskG} {E : Nat → Addr} (h : DiskAt w D G) (he : Env w E) (hn : NumsOk G) (hc : G.crash < 9223372036854775808) (hown : ∀ k, k < 8 → ¬ G.own D k) (hw8 : 8 ≤ w.heap.size) (hlen : G.steps.length < 1099511627776) (p : ByteArray) (hp : p.size < 4294967281) :
    Calls Tryz.prog 20 #[.pointer (some ⟨D, 0, none⟩), .string p] w fun r w' =>
      ∃ v G', r = .returned v ∧ ErrAt w' E v (createCode G p) "create".toUTF8 p ∧ DiskAt w' D G' ∧ Turn (G.own D) w w' ∧ Created w G p (createCode G p) G' ∧ (∀ k, G'.own D k → G.own D k ∨ w.heap.size ≤ k) := by
  have h1 := create_any h he hn hc hown hw8 hlen p hp
  have h2 := fun W => refused_err ⟨#[99, 114, 101, 97, 116, 101]⟩ p E (createCode G p) W
  have H1 := Lib.hid h1
  have H2 := Lib.hid h2
  clear h he hn hc hown hlen hp h1 h2
  go_enter Tryz.func20, Tryz.ntmps20
  go_wp2_with (first
    | (go_at_call 63; ((with_reducible refine H1.out.mono ?_); rintro r w2 ⟨rfl, G', hd, ht, hcr, hnew⟩))
    | (go_at_call 55; ((with_reducible refine (H2.out _).mono ?_); rintro r w3 ⟨v, rfl, hv, hb⟩)))
  go_ret
  exact ⟨_, G', rfl, hv, hd.below hb, ht.trans (Turn.of_below hb : Turn (fun _ => False) _ _) (fun _ _ h => h.elim), hcr, hnew⟩

end Go.Proofs.YtmmlefbokplnnaaGreatDoor.Disk

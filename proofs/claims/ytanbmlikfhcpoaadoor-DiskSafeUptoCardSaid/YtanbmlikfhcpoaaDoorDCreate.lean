/-
  A file comes to be: the contracts of create and Create. Own text.
-/
import Derived.Test.YtanbmlikfhcpoaaDoorDChange
namespace Go.Proofs.YtanbmlikfhcpoaaDoor.Disk
open Go.RowKit Go Go.Proofs.YtanbmlikfhcpoaaDoor.Base Go.Proofs.YtanbmlikfhcpoaaDoor.Map

def numsIn (g : TreeG) (n : Nat) : Prop := ∀ x ∈ g.ds, ∀ p ∈ x.files, p.2 < n
structure NumsOk (G : DiskG) : Prop where
  cur : numsIn G.gc G.pfs.length
  dur : numsIn G.gd G.pfs.length
  steps : ∀ x ∈ G.steps, x.s.kind = 2 → x.s.num < G.pfs.length

theorem TreeAt.congr {w : World} {ptr ptr' : Nat → Nat} {g : TreeG} {n : Nat} (h : TreeAt w ptr g) (hn : numsIn g n) (hp : ∀ i, i < n → ptr' i = ptr i) : TreeAt w ptr' g := by
  refine ⟨h.none, h.top, fun x hx => ?_, h.apart⟩
  have : fileEnts ptr' x.files = fileEnts ptr x.files := by
    unfold fileEnts
    apply List.map_congr_left
    intro p hp'
    unfold ptrV
    rw [hp _ (hn x hx p hp')]
  rw [this]
  exact h.dirs x hx

theorem StepAt.congr {w : World} {ptr ptr' : Nat → Nat} {v : Value} {bs : List Nat} {s : NStep} (h : StepAt w ptr v bs s) (hp : s.kind = 2 → ptr' s.num = ptr s.num) : StepAt w ptr' v bs s := by
  rcases h with h | ⟨B, C, h1, h2, h3, h4, h5⟩
  · exact .inl h
  · refine .inr ⟨B, C, h1, h2, h3, h4, ?_⟩
    unfold ptrV
    rw [hp h1]
    exact h5

/-- a new file, empty -/
def DiskG.push (G : DiskG) (B : Nat) : DiskG :=
  { G with pfs := G.pfs ++ [⟨[], []⟩], ptr := fun i => if i < G.pfs.length then G.ptr i else B, bvs := fun i => if i < G.pfs.length then G.bvs i else .slice none 0 0, svs := fun i => if i < G.pfs.length then G.svs i else .slice none 0 0 }

theorem Parts.push {w : World} {G : DiskG} (h : Parts w G) (hn : NumsOk G) {B : Nat} (hB : w.heap[B]? = some (.cells #[.slice none 0 0, .slice none 0 0] 58)) (hnew : ∀ i, i < G.pfs.length → G.ptr i ≠ B) : Parts w (G.push B) := by
  have hpt : ∀ i, i < G.pfs.length → (G.push B).ptr i = G.ptr i := fun i hi => by show (if i < G.pfs.length then G.ptr i else B) = _; rw [if_pos hi]
  have hbv : ∀ i, i < G.pfs.length → (G.push B).bvs i = G.bvs i := fun i hi => by show (if i < G.pfs.length then G.bvs i else _) = _; rw [if_pos hi]
  have hsv : ∀ i, i < G.pfs.length → (G.push B).svs i = G.svs i := fun i hi => by show (if i < G.pfs.length then G.svs i else _) = _; rw [if_pos hi]
  have hlen : (G.push B).pfs.length = G.pfs.length + 1 := by show (G.pfs ++ [_]).length = _; simp
  have lastp : (G.push B).ptr G.pfs.length = B := by show (if G.pfs.length < G.pfs.length then _ else B) = _; rw [if_neg (by omega)]
  have lastb : (G.push B).bvs G.pfs.length = .slice none 0 0 := by show (if G.pfs.length < G.pfs.length then _ else _) = _; rw [if_neg (by omega)]
  have lasts : (G.push B).svs G.pfs.length = .slice none 0 0 := by show (if G.pfs.length < G.pfs.length then _ else _) = _; rw [if_neg (by omega)]
  refine ⟨h.cur.congr hn.cur hpt, h.dur.congr hn.dur hpt, h.trees, h.row, fun x hx => (h.steps x hx).congr fun hk => hpt _ (hn.steps x hx hk), fun i hi => ?_, fun i j hi hj he => ?_, fun i j k hi hj h1 h2 => ?_, fun i j k hi hj h1 h2 => ?_⟩
  · rw [hlen] at hi
    by_cases hl : i < G.pfs.length
    · have := h.files i hl
      rw [hpt i hl, hbv i hl, hsv i hl]
      have e : (G.push B).pfs[i] = G.pfs[i] := by simp only [DiskG.push, List.getElem_append_left hl]
      rw [e]
      exact this
    · obtain rfl : i = G.pfs.length := by omega
      rw [lastp, lastb, lasts]
      have e : (G.push B).pfs[G.pfs.length]'(by rw [hlen]; omega) = ⟨[], []⟩ := by simp [DiskG.push]
      rw [e]
      exact ⟨hB, World.ownsRow_nil _ _ _ _, World.ownsRow_nil _ _ _ _⟩
  · rw [hlen] at hi hj
    by_cases hl : i < G.pfs.length <;> by_cases hl2 : j < G.pfs.length
    · rw [hpt i hl, hpt j hl2] at he; exact h.inj i j hl hl2 he
    · obtain rfl : j = G.pfs.length := by omega
      rw [hpt i hl, lastp] at he; exact absurd he (hnew i hl)
    · obtain rfl : i = G.pfs.length := by omega
      rw [hpt j hl2, lastp] at he; exact absurd he.symm (hnew j hl2)
    · omega
  · rw [hlen] at hi hj
    by_cases hl : i < G.pfs.length
    · by_cases hl2 : j < G.pfs.length
      · rw [hbv i hl] at h1; rw [hbv j hl2] at h2; exact h.bytes i j k hl hl2 h1 h2
      · obtain rfl : j = G.pfs.length := by omega
        rw [lastb] at h2; cases h2
    · obtain rfl : i = G.pfs.length := by omega
      rw [lastb] at h1; cases h1
  · rw [hlen] at hi hj
    by_cases hl : i < G.pfs.length
    · by_cases hl2 : j < G.pfs.length
      · rw [hsv i hl] at h1; rw [hsv j hl2] at h2; exact h.rows i j k hl hl2 h1 h2
      · obtain rfl : j = G.pfs.length := by omega
        rw [lasts] at h2; cases h2
    · obtain rfl : i = G.pfs.length := by omega
      rw [lasts] at h1; cases h1

theorem DiskAt.push {w : World} {D : Nat} {G : DiskG} (h : DiskAt w D G) (hn : NumsOk G) {B : Nat} (hB : w.heap[B]? = some (.cells #[.slice none 0 0, .slice none 0 0] 58)) (hnew : ∀ i, i < G.pfs.length → G.ptr i ≠ B) : DiskAt w D (G.push B) := ⟨h.block, h.parts.push hn hB hnew⟩

theorem Parts.unpush {w : World} {G : DiskG} {B : Nat} (h : Parts w (G.push B)) (hn : NumsOk G) : Parts w G := by
  have hpt : ∀ i, i < G.pfs.length → G.ptr i = (G.push B).ptr i := fun i hi => by show _ = (if i < G.pfs.length then G.ptr i else B); rw [if_pos hi]
  have hbv : ∀ i, i < G.pfs.length → G.bvs i = (G.push B).bvs i := fun i hi => by show _ = (if i < G.pfs.length then G.bvs i else _); rw [if_pos hi]
  have hsv : ∀ i, i < G.pfs.length → G.svs i = (G.push B).svs i := fun i hi => by show _ = (if i < G.pfs.length then G.svs i else _); rw [if_pos hi]
  have hlen : ∀ i, i < G.pfs.length → i < (G.push B).pfs.length := fun i hi => by show i < (G.pfs ++ [_]).length; simp; omega
  refine ⟨TreeAt.congr (n := G.pfs.length) h.cur hn.cur hpt, TreeAt.congr (n := G.pfs.length) h.dur hn.dur hpt, h.trees, h.row, fun x hx => (h.steps x hx).congr fun hk => hpt _ (hn.steps x hx hk), fun i hi => ?_, fun i j hi hj he => ?_, fun i j k hi hj h1 h2 => ?_, fun i j k hi hj h1 h2 => ?_⟩
  · have := h.files i (hlen i hi)
    rw [hpt i hi, hbv i hi, hsv i hi]
    have e : (G.push B).pfs[i]'(hlen i hi) = G.pfs[i] := by simp only [DiskG.push, List.getElem_append_left hi]
    rw [e] at this
    exact this
  · exact h.inj i j (hlen i hi) (hlen j hj) (by rw [← hpt i hi, ← hpt j hj]; exact he)
  · exact h.bytes i j k (hlen i hi) (hlen j hj) (by rw [← hbv i hi]; exact h1) (by rw [← hbv j hj]; exact h2)
  · exact h.rows i j k (hlen i hi) (hlen j hj) (by rw [← hsv i hi]; exact h1) (by rw [← hsv j hj]; exact h2)

theorem own_files_push {G : DiskG} {B k : Nat} (h : ∃ i, i < (G.push B).pfs.length ∧ fileOwn ((G.push B).ptr i) ((G.push B).bvs i) ((G.push B).svs i) k) : (∃ i, i < G.pfs.length ∧ fileOwn (G.ptr i) (G.bvs i) (G.svs i) k) ∨ k = B := by
  obtain ⟨i, hi, hk⟩ := h
  have hlen : (G.push B).pfs.length = G.pfs.length + 1 := by show (G.pfs ++ [_]).length = _; simp
  rw [hlen] at hi
  by_cases hl : i < G.pfs.length
  · left
    refine ⟨i, hl, ?_⟩
    have e1 : (G.push B).ptr i = G.ptr i := by show (if i < G.pfs.length then G.ptr i else B) = _; rw [if_pos hl]
    have e2 : (G.push B).bvs i = G.bvs i := by show (if i < G.pfs.length then G.bvs i else _) = _; rw [if_pos hl]
    have e3 : (G.push B).svs i = G.svs i := by show (if i < G.pfs.length then G.svs i else _) = _; rw [if_pos hl]
    rw [e1, e2, e3] at hk
    exact hk
  · right
    have e1 : (G.push B).ptr i = B := by show (if i < G.pfs.length then G.ptr i else B) = _; rw [if_neg hl]
    have e2 : (G.push B).bvs i = .slice none 0 0 := by show (if i < G.pfs.length then G.bvs i else _) = _; rw [if_neg hl]
    have e3 : (G.push B).svs i = .slice none 0 0 := by show (if i < G.pfs.length then G.svs i else _) = _; rw [if_neg hl]
    rw [e1, e2, e3] at hk
    rcases hk with hk | hk | hk
    · exact hk
    · cases hk
    · cases hk

theorem own_push {G : DiskG} {D B k : Nat} (h : (G.push B).own D k) : G.own D k ∨ k = B := by
  rcases h with h | h | h | h | h | h
  · exact .inl (.inl h)
  · exact .inl (.inr (.inl h))
  · exact .inl (.inr (.inr (.inl h)))
  · exact .inl (.inr (.inr (.inr (.inl h))))
  · exact .inl (.inr (.inr (.inr (.inr (.inl h)))))
  · rcases own_files_push h with h | h
    · exact .inl (.inr (.inr (.inr (.inr (.inr h)))))
    · exact .inr h

/-- what create answers -/
def createCode (G : DiskG) (p : ByteArray) : Nat :=
  if G.off then 1 else if isPath p = false then 2 else if isFolderG G.gc (dirOf p) = false then 4 else if existsG G.gc p = true then 5 else if G.crash = 1 then 1 else 0

theorem dirOf_size (p : ByteArray) : (dirOf p).size ≤ p.size := by
  unfold dirOf; split
  · rw [ByteArray.size_extract]; have := sl_le p; omega
  · exact Nat.zero_le _

/-- the disk behind create -/
def Created (w : World) (G : DiskG) (p : ByteArray) (c : Nat) (G' : DiskG) : Prop :=
  (c ≠ 0 ∧ (G' = G ∨ (G.crash = 1 ∧ G' = { G with off := true }))) ∨
  (c = 0 ∧ ∃ B v bs, w.heap.size ≤ B ∧ PutTo G.gc G'.gc (dirOf p) (baseOf p) G.pfs.length ∧ G'.steps = G.steps ++ [⟨⟨2, p, ByteArray.empty, G.pfs.length⟩, v, bs⟩] ∧
    G'.gd = G.gd ∧ G'.ptr = (G.push B).ptr ∧ G'.pfs = (G.push B).pfs ∧ G'.bvs = (G.push B).bvs ∧ G'.svs = (G.push B).svs ∧ G'.cap = G.cap ∧ G'.used = G.used ∧ G'.off = G.off ∧ G'.crash = G.crash - 1)

theorem _root_.Go.RowKit.Below.drewN {B : Nat} {a w : World} (h : Below B a w) (n : Nat) : Below B a (w.drewN n) := ⟨h.os, h.tape, h.output, h.size, h.block⟩

theorem quiet_plus {P : Program} {f : FuncId} {args : Array Value} {w : World} {n a : Nat} {v : Value} (h : Calls P f args (w.drewN (n + a)) fun e w' => e = .returned v ∧ ∃ m, w' = (w.drewN (n + a)).drewN m) :
    Calls P f args (w.drewN (n + a)) fun e w'' => e = .returned v ∧ ∃ m, w'' = w.drewN (n + m) :=
  h.mono fun _ _ ⟨he, m, hm⟩ => ⟨he, a + m, by rw [hm, World.drewN_drewN, Nat.add_assoc]⟩
theorem quiet_plus_same {P : Program} {f : FuncId} {args : Array Value} {w : World} {n a : Nat} {v : Value} (h : Calls P f args (w.drewN (n + a)) fun e w' => e = .returned v ∧ w' = w.drewN (n + a)) :
    Calls P f args (w.drewN (n + a)) fun e w'' => e = .returned v ∧ ∃ m, w'' = w.drewN (n + m) :=
  h.mono fun _ _ ⟨he, hm⟩ => ⟨he, a, hm⟩

theorem max_of_heap {w w' : World} (h : Max w) (hh : w'.heap = w.heap) : Max w' := by
  obtain ⟨m, hm⟩ := h
  exact ⟨m, by rw [World.cell?_of_block (w := w) (by rw [hh])]; exact hm⟩

/-- the look-ups, in every world that holds the same -/
theorem looks {w : World} {D : Nat} {G : DiskG} (h : DiskAt w D G) (hm : Max w) (p : ByteArray) (hp : p.size < 4294967281) :
    (∀ W : World, W.heap = w.heap → Calls Tryd.prog 37 #[.string p] W fun e w' => e = .returned (.bool (isPath p)) ∧ ∃ n, w' = W.drewN n) ∧
    (∀ W : World, W.heap = w.heap → Calls Tryd.prog 38 #[.string p] W fun e w' => e = .returned (.string (dirOf p)) ∧ ∃ n, w' = W.drewN n) ∧
    (∀ W : World, ∀ d, W.heap = w.heap → Calls Tryd.prog 31 #[.pointer (some ⟨D, 0, none⟩), .string d] W fun e w' => e = .returned (.bool (isFolderG G.gc d)) ∧ w' = W) ∧
    (∀ W : World, W.heap = w.heap → Calls Tryd.prog 33 #[.pointer (some ⟨D, 0, none⟩), .string p] W fun e w' => e = .returned (.bool (existsG G.gc p)) ∧ ∃ n, w' = W.drewN n) ∧
    (∀ W : World, W.heap = w.heap → Calls Tryd.prog 26 #[.pointer (some ⟨D, 0, none⟩), .string p] W fun e w' => e = .returned (fileV G.ptr (fileOf G.gc p)) ∧ ∃ n, w' = W.drewN n) := by
  have ht : ∀ W : World, W.heap = w.heap → TreeAt W G.ptr G.gc := fun W hW => h.parts.cur.of_heap fun b _ => by rw [hW]
  have hc : ∀ W : World, W.heap = w.heap → W.cell? ⟨D, 0, none⟩ = some (topV G.gc) := fun W hW => by rw [World.cell?_of_block (w := w) (by rw [hW])]; exact h.cell 0
  exact ⟨fun W hW => isPath_any p hp W (max_of_heap hm hW), fun W hW => folderOf_any p hp W (max_of_heap hm hW), fun W d hW => (isFolder_any (ht W hW) D 0 (hc W hW) d).mono fun _ _ ⟨h1, h2⟩ => ⟨h1, h2.symm⟩,
    fun W hW => exists_any (ht W hW) D 0 (hc W hW) p hp (max_of_heap hm hW), fun W hW => file_any (ht W hW) D 0 (hc W hW) p hp (max_of_heap hm hW)⟩

/-- the world in which the new file's step is made -/
def made (w : World) (p : ByteArray) (N : Nat) : World :=
  (((w.alloc (.cells #[.string p] 9)).drewN N).alloc (.cells #[.slice none 0 0, .slice none 0 0] 58)).alloc (.cells #[.pointer (some ⟨w.heap.size + 1, 0, none⟩)] 53)

theorem made_below (w : World) (p : ByteArray) (N : Nat) : Below w.heap.size w (made w p N) := by
  have h1 : Below w.heap.size w ((w.alloc (.cells #[.string p] 9)).drewN N) := (below_alloc w _).drewN N
  have s1 := h1.size
  exact (h1.alloc s1 _).alloc (by simp; omega) _

theorem create_step {w : World} {D : Nat} {G : DiskG} {E : Nat → Addr} (h : DiskAt w D G) (he : Env w E) (hn : NumsOk G) (hc : G.crash < 4611686018427387904) (hown : ∀ k, k < 8 → ¬ G.own D k) (hw8 : 8 ≤ w.heap.size) (hlen : G.steps.length < 1099511627776) (p : ByteArray) (hp : p.size < 4294967281) (N : Nat) :
    Calls Tryd.prog 34 #[.pointer (some ⟨D, 0, none⟩), .func (.func 39) #[] #[.pointer (some ⟨w.heap.size, 0, none⟩), .pointer (some ⟨w.heap.size + 1 + 1, 0, none⟩)]] (made w p N) fun r w' =>
      r = .returned (errV E (if G.crash = 1 then 1 else 0)) ∧ ∃ G', DiskAt w' D G' ∧ Turn (G.own D) w w' ∧ Created w G p (if G.crash = 1 then 1 else 0) G' ∧ (∀ k, G'.own D k → G.own D k ∨ w.heap.size ≤ k) := by
  have hB := made_below w p N
  have h4 := h.below hB
  have he4 : Env (made w p N) E := he.turn (Turn.of_below (S := fun _ => False) hB) (fun _ _ h => h)
  have z1 : (made w p N).heap[w.heap.size]? = some (.cells #[.string p] 9) := by
    unfold made
    rw [heap_alloc_old _ _ (by simp; omega), heap_alloc_old _ _ (by simp)]
    exact heap_alloc_new w _
  have z2 : (made w p N).heap[w.heap.size + 1]? = some (.cells #[.slice none 0 0, .slice none 0 0] 58) := by
    unfold made
    rw [heap_alloc_old _ _ (by simp)]
    have := heap_alloc_new ((w.alloc (.cells #[.string p] 9)).drewN N) (.cells #[.slice none 0 0, .slice none 0 0] 58)
    simpa using this
  have z3 : (made w p N).heap[w.heap.size + 1 + 1]? = some (.cells #[.pointer (some ⟨w.heap.size + 1, 0, none⟩)] 53) := by
    have := heap_alloc_new (((w.alloc (.cells #[.string p] 9)).drewN N).alloc (.cells #[.slice none 0 0, .slice none 0 0] 58)) (.cells #[.pointer (some ⟨w.heap.size + 1, 0, none⟩)] 53)
    unfold made
    simpa using this
  have h5 := h4.push hn z2 (fun i hi e => by have := (h.parts.files i hi).lt; omega)
  have hst : StepAt (made w p N) (G.push (w.heap.size + 1)).ptr (.func (.func 39) #[] #[lbox w.heap.size, lbox (w.heap.size + 1 + 1)]) [w.heap.size, w.heap.size + 1 + 1] ⟨2, p, ByteArray.empty, G.pfs.length⟩ := by
    refine .inr ⟨_, _, rfl, rfl, rfl, z1, ?_⟩
    unfold BoxP ptrV
    have e : (G.push (w.heap.size + 1)).ptr G.pfs.length = w.heap.size + 1 := by show (if G.pfs.length < G.pfs.length then _ else _) = _; rw [if_neg (by omega)]
    rw [e]
    exact z3
  have hlt := fun k => Parts.own_lt h k
  have hown5 : ∀ k, k < 8 → ¬ (G.push (w.heap.size + 1)).own D k := fun k hk hh => by
    rcases own_push hh with hh | hh
    · exact hown k hk hh
    · omega
  have hch := change_any h5 he4 hc hown5 hlen hst ⟨fun hk => (by cases hk), hp, (by show ByteArray.empty.size < 4294967281; decide)⟩ (fun b hb => by
    have hDl := h.lt
    simp at hb
    refine ⟨by omega, fun hb2 => ?_⟩
    have := h.parts.cur.lt b hb2
    omega)
  refine hch.mono fun r w' hh => ?_
  have hs4 := hB.size
  have turn : ∀ {S : Nat → Prop} {a : World}, Turn S (made w p N) a → (∀ k, k < w.heap.size → S k → G.own D k) → Turn (G.own D) w a := fun {S a} ht hS => (Turn.of_below hB).trans ht hS
  rcases hh with ⟨c1, rfl, hd, ht⟩ | ⟨c1, rfl, G', hd, ht, hap, hst', hrest, hbl, hnv⟩
  · have c1 : G.crash = 1 := c1
    rw [if_pos c1]
    refine ⟨rfl, { G with off := true }, ⟨hd.block, ?_⟩, turn ht (fun k _ hk => .inl hk), .inl ⟨by decide, .inr ⟨c1, rfl⟩⟩, fun k hk => .inl hk⟩
    have hu : Parts w' ((G.push (w.heap.size + 1))) := hd.parts.with rfl rfl rfl rfl rfl rfl rfl rfl
    exact (hu.unpush hn).with rfl rfl rfl rfl rfl rfl rfl rfl
  · have c1 : ¬ G.crash = 1 := c1
    rw [if_neg c1]
    obtain ⟨r1, r2, r3, r4, r5, r6, r7, r8, r9⟩ := hrest
    refine ⟨rfl, G', hd, turn ht (fun k hk hh => by rcases own_push hh with hh | hh; exact hh; omega), .inr ⟨rfl, w.heap.size + 1, _, _, by omega, ?_, hst', r1, r2, r3, r4, r5, r6, r7, r8, r9⟩, fun k hk => ?_⟩
    · rcases hap with ⟨hk, _⟩ | ⟨_, hput⟩
      · cases hk
      · exact hput
    · rcases hk with hk | hk | hk | hk | ⟨x, hx, hk⟩ | hk
      · exact .inl (.inl hk)
      · rcases hbl k hk with h1 | h1
        · exact .inl (.inr (.inl h1))
        · exact .inr (by omega)
      · rw [r1] at hk; exact .inl (.inr (.inr (.inl hk)))
      · rcases hnv with h1 | ⟨j, h1, h2⟩
        · rw [h1] at hk; exact .inl (.inr (.inr (.inr (.inl hk))))
        · rw [h1] at hk; injection hk with hk; exact .inr (by omega)
      · rw [hst'] at hx
        rcases List.mem_append.1 hx with hx | hx
        · exact .inl (.inr (.inr (.inr (.inr (.inl ⟨x, hx, hk⟩)))))
        · simp at hx
          subst hx
          simp at hk
          exact .inr (by omega)
      · obtain ⟨i, hi, hk⟩ := hk
        rw [r2, r4, r5] at hk
        rw [r3] at hi
        rcases own_files_push ⟨i, hi, hk⟩ with h1 | h1
        · exact .inl (.inr (.inr (.inr (.inr (.inr h1)))))
        · exact .inr (by omega)

set_option maxRecDepth 100000 in
set_option maxHeartbeats 4000000 in
theorem create_any {w : World} {D : Nat} {G : DiskG} {E : Nat → Addr} (h : DiskAt w D G) (he : Env w E) (hn : NumsOk G) (hc : G.crash < 4611686018427387904) (hown : ∀ k, k < 8 → ¬ G.own D k) (hw8 : 8 ≤ w.heap.size) (hlen : G.steps.length < 1099511627776) (p : ByteArray) (hp : p.size < 4294967281) :
    Calls Tryd.prog 18 #[.pointer (some ⟨D, 0, none⟩), .string p] w fun r w' =>
      r = .returned (errV E (createCode G p)) ∧ ∃ G', DiskAt w' D G' ∧ Turn (G.own D) w w' ∧ Created w G p (createCode G p) G' ∧ (∀ k, G'.own D k → G.own D k ∨ w.heap.size ≤ k) := by
  have hbel : Below w.heap.size w (w.alloc (.cells #[.string p] 9)) := below_alloc _ _
  have h1 := h.below hbel
  have he1 : Env (w.alloc (.cells #[.string p] 9)) E := he.turn (Turn.of_below (S := fun _ => False) hbel) (fun _ _ h => h)
  have hoff := off_any h1
  obtain ⟨l1, l2, l3, l4, _⟩ := looks h1 he1.max p hp
  have l3 := fun W => l3 W (dirOf p)
  have g0 := he1.off
  have g1 := he1.name
  have g3 := he1.missing
  have g4 := he1.exists'
  have hcs := fun N => create_step h he hn hc hown hw8 hlen p hp N
  simp only [made] at hcs
  obtain ⟨cc, hcc⟩ : ∃ cc : Nat, (if G.crash = 1 then 1 else 0) = cc := ⟨_, rfl⟩
  simp only [hcc] at hcs
  have HCC := Lib.hid hcc
  have HCS := Lib.hid hcs
  have H1 := Lib.hid h1
  have HB := Lib.hid hbel
  unfold createCode
  clear h he he1 hn hc hown hlen h1 hbel hp hcs hcc
  cases ho : G.off
  · rw [ho] at hoff
    rw [if_neg (by decide)]
    have L1 := Lib.hid l1
    have L2 := Lib.hid l2
    have L3 := Lib.hid l3
    have L4 := Lib.hid l4
    clear l1 l2 l3 l4
    cases hP : isPath p
    · rw [if_pos rfl]
      rw [hP] at L1
      unfold errV at g1 ⊢
      go_enter Tryd.func18, Tryd.ntmps18
      go_wp2_with (first | (go_at_call 14; refine hoff.mono ?_; rintro r w2 ⟨rfl, rfl⟩) | (go_at_call 37; ((with_reducible refine (L1.out _ (by rfl)).mono ?_); rintro r w2 ⟨rfl, n, rfl⟩)))
      go_ret
      exact ⟨rfl, G, H1.out.below ((Below.refl _ _).drewN n), Turn.of_below (HB.out.drewN n), .inl ⟨by decide, .inl rfl⟩, fun k hk => .inl hk⟩
    · rw [if_neg (by decide)]
      rw [hP] at L1
      cases hF : isFolderG G.gc (dirOf p)
      · rw [if_pos rfl]
        rw [hF] at L3
        unfold errV at g3 ⊢
        go_enter Tryd.func18, Tryd.ntmps18
        go_wp2_with (first | (go_at_call 14; refine hoff.mono ?_; rintro r w2 ⟨rfl, rfl⟩) | (go_at_call 37; ((with_reducible refine (L1.out _ (by rfl)).mono ?_); rintro r w2 ⟨rfl, n, rfl⟩)))
        go_quiet (first | exact quiet_plus (L2.out _ (by rfl)) | exact quiet_plus_same (L3.out _ (by rfl)))
        go_wp2
        go_ret
        exact ⟨rfl, G, H1.out.below ((Below.refl _ _).drewN _), Turn.of_below (HB.out.drewN _), .inl ⟨by decide, .inl rfl⟩, fun k hk => .inl hk⟩
      · rw [if_neg (by decide)]
        rw [hF] at L3
        cases hX : existsG G.gc p
        · rw [if_neg (by decide)]
          rw [hX] at L4
          rw [HCC.out]
          go_enter Tryd.func18, Tryd.ntmps18
          go_wp2_with (first | (go_at_call 14; refine hoff.mono ?_; rintro r w2 ⟨rfl, rfl⟩) | (go_at_call 37; ((with_reducible refine (L1.out _ (by rfl)).mono ?_); rintro r w2 ⟨rfl, n, rfl⟩)))
          go_quiet (first | exact quiet_plus (L2.out _ (by rfl)) | exact quiet_plus_same (L3.out _ (by rfl)))
          go_wp2_with fail
          go_quiet (exact quiet_plus (L4.out _ (by rfl)))
          go_wp2_with (go_at_call 34; ((with_reducible refine (HCS.out _).mono ?_); rintro r w2 ⟨rfl, G', hG⟩))
          go_ret
          exact ⟨rfl, G', hG⟩
        · rw [if_pos rfl]
          rw [hX] at L4
          unfold errV at g4 ⊢
          go_enter Tryd.func18, Tryd.ntmps18
          go_wp2_with (first | (go_at_call 14; refine hoff.mono ?_; rintro r w2 ⟨rfl, rfl⟩) | (go_at_call 37; ((with_reducible refine (L1.out _ (by rfl)).mono ?_); rintro r w2 ⟨rfl, n, rfl⟩)))
          go_quiet (first | exact quiet_plus (L2.out _ (by rfl)) | exact quiet_plus_same (L3.out _ (by rfl)))
          go_wp2_with fail
          go_quiet (exact quiet_plus (L4.out _ (by rfl)))
          go_wp2
          go_ret
          exact ⟨rfl, G, H1.out.below ((Below.refl _ _).drewN _), Turn.of_below (HB.out.drewN _), .inl ⟨by decide, .inl rfl⟩, fun k hk => .inl hk⟩
  · rw [ho] at hoff
    rw [if_pos rfl]
    unfold errV at g0 ⊢
    clear l1 l2 l3 l4
    go_enter Tryd.func18, Tryd.ntmps18
    go_wp2_with (go_at_call 14; refine hoff.mono ?_; rintro r w2 ⟨rfl, rfl⟩)
    go_ret
    exact ⟨rfl, G, H1.out, Turn.of_below HB.out, .inl ⟨by decide, .inl rfl⟩, fun k hk => .inl hk⟩

end Go.Proofs.YtanbmlikfhcpoaaDoor.Disk

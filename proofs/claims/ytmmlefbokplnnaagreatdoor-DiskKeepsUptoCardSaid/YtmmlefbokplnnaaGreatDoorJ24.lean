/-
  The texts RMem, RLook, RApply, joined. Own text.
-/
import Derived.Test.YtmmlefbokplnnaaGreatDoorJ22
import Derived.Test.YtmmlefbokplnnaaGreatDoorJ23
set_option linter.unusedVariables false
set_option linter.unusedSimpArgs false
namespace Go.Proofs.YtmmlefbokplnnaaGreatDoor.Disk
open Go.RowKit Go Go.Proofs.YtmmlefbokplnnaaGreatDoor.Base Go.Proofs.YtmmlefbokplnnaaGreatDoor.Map

section
variable {α : Type} {f : α → List Value} {k : Nat}
theorem flat_length (hk : ∀ x, (f x).length = k) (l : List α) : (l.flatMap f).length = l.length * k := by
  induction l with
  | nil => simp
  | cons s r ih => rw [List.flatMap_cons, List.length_append, ih, hk, List.length_cons, Nat.succ_mul]; omega
theorem flat_at (hk : ∀ x, (f x).length = k) (l : List α) (j : Nat) (hj : j < l.length) (c : Nat) (hc : c < k) : (l.flatMap f)[j * k + c]? = (f (l[j]'hj))[c]? := by
  induction l generalizing j with
  | nil => simp at hj
  | cons s r ih =>
    rw [List.flatMap_cons]
    cases j with
    | zero => rw [List.getElem?_append_left (by rw [hk]; omega)]; simp
    | succ j =>
      rw [List.getElem?_append_right (by rw [hk, Nat.succ_mul]; omega), hk, show (j + 1) * k + c - k = j * k + c from by rw [Nat.succ_mul]; omega]
      simp only [List.length_cons] at hj
      rw [ih j (by omega)]
      simp

/-- a row of structs, read -/
def RowAt (w : World) (ao : Option Addr) (f : α → List Value) (k : Nat) (l : List α) : Prop :=
  ∀ j (hj : j < l.length), ∃ g, ao = some ⟨g, 0, none⟩ ∧ g < w.heap.size ∧ ∀ c, c < k → w.cell? ⟨g, j * k + c, none⟩ = (f (l[j]'hj))[c]?

theorem RowAt.below {w w' : World} {ao : Option Addr} {l : List α} (h : RowAt w ao f k l) (hb : Below w.heap.size w w') : RowAt w' ao f k l := fun j hj => by
  obtain ⟨g, h1, h2, h3⟩ := h j hj
  exact ⟨g, h1, by have := hb.size; omega, fun c hc => by rw [← h3 c hc]; exact hb.cell h2⟩

theorem row_open {w : World} {e : TypeId} {v : Value} {n : Nat} {l : List α} (hk : ∀ x, (f x).length = k) (h : w.ownsRow 0 e k v n (l.flatMap f)) (hn : l.length = n) : ∃ ao cap, v = .slice ao n cap ∧ n ≤ cap ∧ RowAt w ao f k l := by
  rcases h.2 with ⟨h1, h0⟩ | ⟨g, cap, cur, h1, _, h2, h3, _⟩
  · exact ⟨none, 0, by rw [h1, h0], by omega, fun j hj => by omega⟩
  · refine ⟨_, cap, h1, h3, fun j hj => ⟨g, rfl, (Array.getElem?_eq_some_iff.1 h2).1, fun c hc => ?_⟩⟩
    have hlt : j * k + c < (l.flatMap f).length := by
      rw [flat_length hk]
      have : (j + 1) * k ≤ l.length * k := Nat.mul_le_mul_right _ hj
      rw [Nat.succ_mul] at this
      omega
    have hs := h.cells (g := g) (by rw [h1]; rfl) (j * k + c) _ (List.getElem?_eq_getElem hlt)
    rw [Go.WideShapes.add_plain, Nat.zero_add] at hs
    rw [hs, ← flat_at hk l j hj c hc, List.getElem?_eq_getElem hlt]
end

def thingC (t : Thing) : List Value := [.string t.path, .bool t.dir, .int .i64 (t.num : Int)]
def nstepC (s : NStep) : List Value := [.int .i64 (s.kind : Int), .string s.a, .string s.b, .int .i64 (s.num : Int)]
def changeC (c : Change) : List Value := [.string (strN c.text), .bool c.cut, .int .i64 (c.size : Int)]
def fbC (x : FB × Value) : List Value := [.string (strN x.1.now), .string (strN x.1.safe), x.2]

structure RefG where
  tv : Value
  sv : Value
  nv : Value
  fv : Value
  cs : List Value

def refCells (q : RefG) (m : M) : Array Value := #[q.tv, q.sv, q.nv, q.fv, .int .i64 (m.cap : Int), .bool m.off, .int .i64 (m.await : Int)]

/-- the document's disk in memory -/
structure RefAt (w : World) (R : Nat) (q : RefG) (m : M) : Prop where
  block : w.heap[R]? = some (.cells (refCells q m) 43)
  things : w.ownsRow 0 83 3 q.tv m.things.length (m.things.flatMap thingC)
  safe : w.ownsRow 0 83 3 q.sv m.safe.length (m.safe.flatMap thingC)
  steps : w.ownsRow 0 97 4 q.nv m.steps.length (m.steps.flatMap nstepC)
  files : w.ownsRow 0 101 3 q.fv m.files.length ((m.files.zip q.cs).flatMap fbC)
  len : q.cs.length = m.files.length
  changes : ∀ i (h1 : i < m.files.length) (h2 : i < q.cs.length), w.ownsRow 0 120 3 (q.cs[i]'h2) (m.files[i]'h1).steps.length ((m.files[i]'h1).steps.flatMap changeC)
  apart : ∀ i j k (h1 : i < q.cs.length) (h2 : j < q.cs.length), (q.cs[i]'h1).ownBlock = some k → (q.cs[j]'h2).ownBlock = some k → i = j

/-- the blocks that its calls write -/
def RefG.own (q : RefG) (R : Nat) : Nat → Prop := fun k => k = R ∨ q.nv.ownBlock = some k ∨ q.fv.ownBlock = some k ∨ ∃ v ∈ q.cs, v.ownBlock = some k

section
variable {w w' : World} {R : Nat} {q : RefG} {m : M}

theorem RefAt.lt (h : RefAt w R q m) : R < w.heap.size := (Array.getElem?_eq_some_iff.1 h.block).1
theorem RefAt.cell (h : RefAt w R q m) (i : Nat) : w.cell? ⟨R, i, none⟩ = (refCells q m)[i]? := cell_of_row w R i _ _ _ h.block
theorem RefAt.fro (h : RefAt w R q m) (i : Nat) : w.frozen? ⟨R, i, none⟩ = false := by simp [World.frozen?, h.block]

/-- what leaves all its blocks -/
theorem RefAt.of_heap (h : RefAt w R q m) {S : Nat → Prop} (ht : Turn S w w') (h0 : ¬ S R) (h1 : ∀ k, q.tv.ownBlock = some k → ¬ S k) (h2 : ∀ k, q.sv.ownBlock = some k → ¬ S k) (h3 : ∀ k, q.nv.ownBlock = some k → ¬ S k) (h4 : ∀ k, q.fv.ownBlock = some k → ¬ S k)
    (h5 : ∀ v ∈ q.cs, ∀ k, v.ownBlock = some k → ¬ S k) : RefAt w' R q m :=
  ⟨(ht.block R h.lt h0).trans h.block, row_turn h.things ht h1, row_turn h.safe ht h2, row_turn h.steps ht h3, row_turn h.files ht h4, h.len, fun i i1 i2 => row_turn (h.changes i i1 i2) ht (h5 _ (List.getElem_mem i2)), h.apart⟩

theorem RefAt.below (h : RefAt w R q m) (hb : Below w.heap.size w w') : RefAt w' R q m :=
  h.of_heap (S := fun _ => False) (Turn.of_below hb) id (fun _ _ => id) (fun _ _ => id) (fun _ _ => id) (fun _ _ => id) (fun _ _ _ _ => id)

def findI (l : List Thing) (p : ByteArray) : Int := if (find l p).isSome then ((l.findIdx fun x => decide (x.path = p) : Nat) : Int) else -1

theorem findI_at {l : List Thing} {p : ByteArray} (j : Nat) (hj : j < l.length) (h1 : (l[j]'hj).path = p) (h2 : ∀ i (hi : i < j), (l[i]'(by omega)).path ≠ p) : findI l p = (j : Int) ∧ find l p = some (l[j]'hj) := by
  have e : l.findIdx (fun x => decide (x.path = p)) = j := by
    rw [List.findIdx_eq hj]
    exact ⟨by simp [h1], fun i hi => by simpa using h2 i hi⟩
  have e2 : find l p = some (l[j]'hj) := by
    unfold find
    rw [List.find?_eq_some_iff_getElem]
    exact ⟨by simp [h1], j, hj, rfl, fun i hi => by simpa using h2 i hi⟩
  exact ⟨by unfold findI; rw [e2, e]; rfl, e2⟩
theorem findI_none {l : List Thing} {p : ByteArray} (h : ∀ i (hi : i < l.length), (l[i]'hi).path ≠ p) : findI l p = -1 ∧ find l p = none := by
  have e2 : find l p = none := find_none.2 fun t ht => by
    obtain ⟨i, hi, rfl⟩ := List.getElem_of_mem ht
    exact h i hi
  exact ⟨by unfold findI; rw [e2]; rfl, e2⟩

theorem bytes_ne {a b : ByteArray} (h : a ≠ b) : (a.toList == b.toList) = false := by
  rw [beq_eq_false_iff_ne, toList_data, toList_data]
  intro e
  apply h
  cases a; cases b
  simp only [ByteArray.mk.injEq]
  exact Array.toList_inj.1 e

set_option maxRecDepth 100000 in
set_option maxHeartbeats 2000000 in
theorem find_ref {v : Value} {l : List Thing} (h : w.ownsRow 0 83 3 v l.length (l.flatMap thingC)) (hl : l.length < 4611686018427387904) (p : ByteArray) :
    Calls Tryz.prog 90 #[v, .string p] w fun r w' => r = .returned (.int .i64 (findI l p)) ∧ w = w' := by
  obtain ⟨N, hN⟩ : ∃ N, l.length = N := ⟨_, rfl⟩
  rw [hN] at h hl
  obtain ⟨ao, cap, rfl, _, hr⟩ := row_open (f := thingC) (k := 3) (fun _ => rfl) h hN
  have HR := Lib.hid hr
  have HN := Lib.hid hN
  clear h hr hN
  go_enter Tryz.func90, Tryz.ntmps90
  go_wp2_with fail
  go_loopg [5] N (fun r i wr => ∃ (j : Nat), Hid (j + r = N) ∧ j ≤ N ∧ i = .int .i64 (j : Int) ∧ Hid (∀ x (hx : x < j) (hx2 : x < l.length), (l[x]'hx2).path ≠ p) ∧ wr = w)
  case atStart => exact ⟨0, Nat.zero_add _, Nat.zero_le _, rfl, fun x hx => absurd hx (Nat.not_lt_zero _), rfl⟩
  case round =>
    obtain ⟨j, hE, hj, rfl, HA, rfl⟩ := hrel
    by_cases hlt : j < N
    · have hjl : j < l.length := by rw [HN.out]; exact hlt
      obtain ⟨g, rfl, hg, hc⟩ := HR.out j hjl
      have d0 : wr.cell? ⟨g, j * 3, none⟩ = some (.string (l[j]'hjl).path) := hc 0 (by omega)
      by_cases hpe : (l[j]'hjl).path = p
      · obtain ⟨e1, _⟩ := findI_at j hjl hpe (fun i hi => HA.out i hi (by omega))
        rw [hpe] at d0
        have E1 := Lib.hid e1
        clear hc hpe e1 hg
        go_wp2
        go_ret
        exact ⟨by rw [E1.out]; rfl, rfl⟩
      · have hne := bytes_ne hpe
        have hstep : ∀ x (hx : x < j + 1) (hx2 : x < l.length), (l[x]'hx2).path ≠ p := fun y hy hy2 => by
          by_cases hyj : y = j
          · subst hyj; exact hpe
          · exact HA.out y (by omega) hy2
        have HP := Lib.hid hstep
        clear hstep
        generalize (l[j]'hjl).path = x at d0 hne
        clear hc hpe hg
        go_wp2
        go_roundg (N - (j + 1))
        case measure => have := hE.out; omega
        case rel =>
          exact ⟨j + 1, by show _ = _; omega, by omega, by go_num, HP.out, rfl⟩
    · obtain rfl : j = N := by omega
      obtain ⟨e1, _⟩ := findI_none (l := l) (p := p) (fun i hi => HA.out i (by rw [← HN.out]; exact hi) hi)
      have E1 := Lib.hid e1
      clear hlt hE e1
      go_wp2
      go_ret
      exact ⟨by rw [E1.out]; rfl, rfl⟩

end
end Go.Proofs.YtmmlefbokplnnaaGreatDoor.Disk

namespace Go.Proofs.YtmmlefbokplnnaaGreatDoor.Disk
open Go.RowKit Go Go.Proofs.YtmmlefbokplnnaaGreatDoor.Base Go.Proofs.YtmmlefbokplnnaaGreatDoor.Map

theorem findI_some {l : List Thing} {p : ByteArray} {x : Thing} (h : find l p = some x) : ∃ j, ∃ hj : j < l.length, findI l p = (j : Int) ∧ l[j]'hj = x := by
  have h' := h
  unfold find at h'
  rw [List.find?_eq_some_iff_getElem] at h'
  obtain ⟨h1, j, hj, e, h2⟩ := h'
  obtain ⟨e1, e2⟩ := findI_at (l := l) (p := p) j hj (by rw [e]; simpa using h1) (fun i hi => by simpa using h2 i hi)
  exact ⟨j, hj, e1, e⟩
theorem findI_neg {l : List Thing} {p : ByteArray} (h : find l p = none) : findI l p = -1 := by unfold findI; rw [h]; rfl

theorem bytes_eq {a b : ByteArray} (h : a = b) : (a.toList == b.toList) = true := by rw [h]; simp

theorem inside_ref (p d : ByteArray) (_ : p.size < 4611686018427387904) (hd : d.size < 4611686018427387904) (w : World) : Calls Tryz.prog 62 #[.string p, .string d] w fun r w' => r = .returned (.bool (inside p d)) ∧ w = w' := by
  unfold inside
  by_cases h1 : d.size < p.size
  · by_cases h2 : p.extract 0 d.size = d
    · have b2 := bytes_eq h2
      have hl := at8_lt p d.size
      by_cases h3 : at8 p d.size = 47
      · have b3 : ((((at8 p d.size : Nat) : Int)) == 47) = true := by rw [h3]; rfl
        rw [h3, decide_eq_true h1, decide_eq_true h2]
        rw [at8_eq p d.size h1] at b3
        clear h3 hl
        go_enter Tryz.func62, Tryz.ntmps62
        go_wp2
        go_ret
        exact ⟨ret_bool (by simp), rfl⟩
      · have b3 : ((((at8 p d.size : Nat) : Int)) == 47) = false := by rw [beq_eq_false_iff_ne]; omega
        rw [decide_eq_true h1, decide_eq_true h2, show (at8 p d.size == 47) = false from by rw [beq_eq_false_iff_ne]; exact h3]
        rw [at8_eq p d.size h1] at b3
        clear h3 hl
        go_enter Tryz.func62, Tryz.ntmps62
        go_wp2
        go_ret
        exact ⟨ret_bool (by simp), rfl⟩
    · have b2 := bytes_ne h2
      rw [decide_eq_true h1, decide_eq_false h2]
      go_enter Tryz.func62, Tryz.ntmps62
      go_wp2
      go_ret
      exact ⟨ret_bool (by simp), rfl⟩
  · rw [decide_eq_false h1]
    go_enter Tryz.func62, Tryz.ntmps62
    go_wp2
    go_ret
    exact ⟨ret_bool (by simp), rfl⟩

theorem share_ref (x : Int) (n : Nat) (hx : inI x) (hn : n < 4611686018427387904) (w : World) : Calls Tryz.prog 51 #[.int .i64 x, .int .i64 (n : Int)] w fun r w' => r = .returned (.int .i64 (share x n : Int)) ∧ w = w' := by
  unfold share inI at *
  by_cases h : x < 0
  · rw [if_pos h]
    go_enter Tryz.func51, Tryz.ntmps51
    go_wp2
    go_ret
    exact ⟨rfl, rfl⟩
  · rw [if_neg h]
    have h0 : ((n : Int) + 1 ≠ 0) := by omega
    have e1 : x.tmod ((n : Int) + 1) = ((x.toNat % (n + 1) : Nat) : Int) := by
      rw [Int.tmod_eq_emod_of_nonneg (by omega)]
      rw [Int.natCast_emod, Int.toNat_of_nonneg (by omega)]
      rfl
    go_enter Tryz.func51, Tryz.ntmps51
    go_wp2
    go_ret
    refine ⟨?_, rfl⟩
    simp_all

section
variable {w : World} {R : Nat} {q : RefG} {m : M}

theorem is_ref (h : RefAt w R q m) (hl : m.things.length < 4611686018427387904) (p : ByteArray) : Calls Tryz.prog 60 #[.pointer (some ⟨R, 0, none⟩), .string p] w fun r w' => r = .returned (.int .i64 (isAt m.things p : Int)) ∧ w = w' := by
  have h1 := find_ref h.things hl p
  have c0 : w.cell? ⟨R, 0, none⟩ = some q.tv := h.cell 0
  obtain ⟨ao, cap, hv, hcap, hr⟩ := row_open (f := thingC) (k := 3) (fun _ => rfl) h.things rfl
  rw [hv] at c0 h1
  unfold isAt
  cases hf : find m.things p with
  | none =>
    rw [findI_neg hf] at h1
    clear h hr hv hf
    go_enter Tryz.func60, Tryz.ntmps60
    go_wp2_with (go_at_call 90; refine h1.mono ?_; rintro r w2 ⟨rfl, rfl⟩)
    go_ret
    exact ⟨rfl, rfl⟩
  | some x =>
    obtain ⟨j, hj, e1, e2⟩ := findI_some hf
    rw [e1] at h1
    obtain ⟨g, rfl, hg, hc⟩ := hr j hj
    have d1 : w.cell? ⟨g, j * 3 + 1, none⟩ = some (.bool x.dir) := by rw [hc 1 (by omega), e2]; rfl
    simp only
    clear h hc hv hf e1 e2 hr
    generalize m.things.length = N at *
    cases hd : x.dir
    · rw [hd] at d1
      rw [if_neg (by decide)]
      clear hd
      go_enter Tryz.func60, Tryz.ntmps60
      go_wp2_with (go_at_call 90; refine h1.mono ?_; rintro r w2 ⟨rfl, rfl⟩)
      go_ret
      exact ⟨rfl, rfl⟩
    · rw [hd] at d1
      rw [if_pos rfl]
      clear hd
      go_enter Tryz.func60, Tryz.ntmps60
      go_wp2_with (go_at_call 90; refine h1.mono ?_; rintro r w2 ⟨rfl, rfl⟩)
      go_ret
      exact ⟨rfl, rfl⟩

theorem isAtI_two (k : Nat) : ((((k : Nat) : Int)) == 2) = (k == 2) := by
  rw [Bool.eq_iff_iff]; simp; omega

theorem parent_ref (h : RefAt w R q m) (hl : m.things.length < 4611686018427387904) (p : ByteArray) (hp : p.size < 4611686018427387904) : Calls Tryz.prog 71 #[.pointer (some ⟨R, 0, none⟩), .string p] w fun r w' => r = .returned (.bool (parent m.things p)) ∧ w = w' := by
  have h1 := refSlash p hp w
  have hs := sl_le p
  unfold parent
  unfold slI at h1
  by_cases hk : sl p < p.size
  · have h2 := is_ref h hl (p.extract 0 (sl p))
    rw [if_pos hk] at h1 ⊢
    rw [← isAtI_two]
    generalize isAt m.things (p.extract 0 (sl p)) = v at *
    generalize sl p = k at *
    clear h
    go_enter Tryz.func71, Tryz.ntmps71
    go_wp2_with (first
      | (go_at_call 61; refine h1.mono ?_; rintro r w2 ⟨rfl, rfl⟩)
      | (go_at_call 60; refine h2.mono ?_; rintro r w2 ⟨rfl, rfl⟩))
    go_ret
    exact ⟨rfl, rfl⟩
  · rw [if_neg hk] at h1 ⊢
    clear h
    go_enter Tryz.func71, Tryz.ntmps71
    go_wp2_with (go_at_call 61; refine h1.mono ?_; rintro r w2 ⟨rfl, rfl⟩)
    go_ret
    exact ⟨rfl, rfl⟩

theorem RefAt.kind (h : RefAt w R q m) : isK w R 43 := ⟨_, _, h.block⟩

def tickV (m : M) : Nat := if m.await = 1 then 1 else 0

theorem cells_await (q : RefG) (m : M) (n : Nat) : (refCells q m).setIfInBounds 6 (.int .i64 (n : Int)) = refCells q { m with await := n } := rfl
theorem cells_off (q : RefG) (m : M) (b : Bool) : (refCells q m).setIfInBounds 5 (.bool b) = refCells q { m with off := b } := rfl

/-- a word of the disk is written -/
theorem RefAt.word (h : RefAt w R q m) (i : Nat) (v : Value) (m' : M) (hc : refCells q m' = (refCells q m).setIfInBounds i v) (h1 : m'.things = m.things) (h2 : m'.safe = m.safe) (h3 : m'.steps = m.steps) (h4 : m'.files = m.files) :
    RefAt (w.setCell ⟨R, i, none⟩ v) R q m' := by
  have hD := h.kind
  have ht : Turn (fun k => k = R) w (w.setCell ⟨R, i, none⟩ v) := (Turn.refl _ w).set _ _ (fun _ => rfl)
  refine ⟨?_, ?_, ?_, ?_, ?_, ?_, ?_, h.apart⟩
  · rw [heap_setCell_same w R i _ _ v h.block, hc]
  · rw [h1]; exact row_turn h.things ht fun k hk => (row_kind h.things hk).ne hD (by decide)
  · rw [h2]; exact row_turn h.safe ht fun k hk => (row_kind h.safe hk).ne hD (by decide)
  · rw [h3]; exact row_turn h.steps ht fun k hk => (row_kind h.steps hk).ne hD (by decide)
  · rw [h4]; exact row_turn h.files ht fun k hk => (row_kind h.files hk).ne hD (by decide)
  · rw [h4]; exact h.len
  · intro i i1 i2
    simp only [h4] at i1 ⊢
    exact row_turn (h.changes i i1 i2) ht fun k hk => (row_kind (h.changes i i1 i2) hk).ne hD (by decide)

theorem M.ticked_things (m : M) : m.ticked.things = m.things := by unfold M.ticked; split <;> rfl
theorem M.ticked_safe (m : M) : m.ticked.safe = m.safe := by unfold M.ticked; split <;> rfl
theorem M.ticked_steps (m : M) : m.ticked.steps = m.steps := by unfold M.ticked; split <;> rfl
theorem M.ticked_files (m : M) : m.ticked.files = m.files := by unfold M.ticked; split <;> rfl
theorem M.ticked_cap (m : M) : m.ticked.cap = m.cap := by unfold M.ticked; split <;> rfl

theorem tick_ref (h : RefAt w R q m) (ha : m.await < 9223372036854775808) : Calls Tryz.prog 73 #[.pointer (some ⟨R, 0, none⟩)] w fun r w' => r = .returned (.int .i64 (tickV m : Int)) ∧ RefAt w' R q m.ticked ∧ Turn (fun k => k = R) w w' := by
  have c6 : w.cell? ⟨R, 6, none⟩ = some (.int .i64 (m.await : Int)) := h.cell 6
  have c5 : w.cell? ⟨R, 5, none⟩ = some (.bool m.off) := h.cell 5
  have hlt := h.lt
  have hs := Array.getElem?_eq_some_iff.1 h.block
  have f6 : ∀ i, w.frozen? ⟨R, i, none⟩ = false := h.fro
  have H := Lib.hid h
  have hone : ∀ v, (w.setCell ⟨R, 6, none⟩ v).cell? ⟨R, 6, none⟩ = some v := fun v => by
    rw [cell_of_row _ R 6 _ _ _ (heap_setCell_same w R 6 _ _ v h.block)]
    rfl
  unfold tickV M.ticked
  by_cases h1 : m.await = 1
  · rw [if_pos h1, if_pos h1]
    rw [h1] at c6
    have r1 : RefAt ((w.setCell ⟨R, 6, none⟩ (.int .i64 0)).setCell ⟨R, 5, none⟩ (.bool true)) R q { m with await := 0, off := true } :=
      (h.word 6 (.int .i64 0) { m with await := 0 } rfl rfl rfl rfl rfl).word 5 (.bool true) _ rfl rfl rfl rfl rfl
    have f5 : (w.setCell ⟨R, 6, none⟩ (.int .i64 0)).frozen? ⟨R, 5, none⟩ = false := (h.word 6 (.int .i64 0) { m with await := 0 } rfl rfl rfl rfl rfl).fro 5
    have R1 := Lib.hid r1
    have o := hone (.int .i64 0)
    clear h hs hone h1 r1
    go_enter Tryz.func73, Tryz.ntmps73
    go_wp2
    go_ret
    exact ⟨rfl, R1.out, ((Turn.refl (fun k => k = R) w).set _ _ (fun _ => rfl)).set _ _ (fun _ => rfl)⟩
  · rw [if_neg h1, if_neg h1]
    by_cases h0 : m.await = 0
    · rw [h0] at c6
      have e : { m with await := m.await - 1 } = m := by cases m; simp only [M.mk.injEq]; simp_all
      rw [e]
      clear h hs hone h1 h0 e
      go_enter Tryz.func73, Tryz.ntmps73
      go_wp2
      go_ret
      exact ⟨rfl, H.out, Turn.refl _ _⟩
    · have e : (((m.await - 1 : Nat) : Int)) = (m.await : Int) - 1 := by omega
      have r1 : RefAt (w.setCell ⟨R, 6, none⟩ (.int .i64 ((m.await : Int) - 1))) R q { m with await := m.await - 1 } := by
        rw [← e]; exact h.word 6 _ { m with await := m.await - 1 } rfl rfl rfl rfl rfl
      have o := hone (.int .i64 ((m.await : Int) - 1))
      have n0 : ¬ ((m.await : Int) = 0) := by omega
      have n1 : ¬ ((m.await : Int) - 1 = 0) := by omega
      obtain ⟨m2, hm2⟩ : ∃ m2, { m with await := m.await - 1 } = m2 := ⟨_, rfl⟩
      rw [hm2] at r1 ⊢
      have R1 := Lib.hid r1
      clear h hs hone h1 r1 e h0 hm2 H
      generalize m.await = a at c6 o n0 n1 ha R1
      go_enter Tryz.func73, Tryz.ntmps73
      go_wp2
      go_ret
      exact ⟨rfl, R1.out, (Turn.refl (fun k => k = R) w).set _ _ (fun _ => rfl)⟩

end
end Go.Proofs.YtmmlefbokplnnaaGreatDoor.Disk

namespace Go.Proofs.YtmmlefbokplnnaaGreatDoor.Disk
open Go.RowKit Go Go.Proofs.YtmmlefbokplnnaaGreatDoor.Base Go.Proofs.YtmmlefbokplnnaaGreatDoor.Map

theorem thing_info : (Tryz.prog.info? 83).map (fun i => (i.zero, i.size, i.bytes)) = some (some (.agg #[.string ⟨#[]⟩, .bool false, .int .i64 0]), 3, 32) := by kernel_rfl

/-- a struct, behind the others -/
theorem row_push {t e : TypeId} {k bytes : Nat} {zs : Array Value} (hu : Tryz.prog.underlying t = some (.slice e)) (hinfo : (Tryz.prog.info? e).map (fun i => (i.zero, i.size, i.bytes)) = some (some (.agg zs), k, bytes)) (hk : (Value.agg zs).cells.size = k) (hk0 : 0 < k) (hby : bytes ≤ 64)
    (w : World) (v : Value) (n : Nat) (xs : List Value) (hown : w.ownsRow 0 e k v n xs) (cs : List Value) (hcs : cs.length = k) (hone : ∀ u ∈ cs, u.oneCell' = true) (b : Nat) (hb : w.heap[b]? = some (.cells cs.toArray e)) (hl : n < 1099511627776) :
    ∃ v' w', (Builtin.append_ #[t, t] t #[v, .slice (some ⟨b, 0, none⟩) 1 1]).run Tryz.prog w = .ok v' w' ∧ w'.ownsRow 0 e k v' (n + 1) (xs ++ cs) ∧ w.grownBy w' v.ownBlock ∧ (v'.ownBlock = v.ownBlock ∨ v'.ownBlock = some w.heap.size) := by
  obtain ⟨i0, hi, hz0, hz1, hz2⟩ := info_parts hinfo
  have hsrc : Src Tryz.prog k t (.slice (some ⟨b, 0, none⟩) 1 1) 1 cs w := by
    refine Src.ofSlice w hu _ 1 1 _ (by rw [hcs]; omega) ?_ ?_
    · intro j u hu
      rw [Go.WideShapes.add_plain, cell_of_row w b _ _ _ _ hb]
      simpa using hu
    · exact hone
  have hb2 : (n + 1) * bytes ≤ 140737488355328 := by
    have : (n + 1) * bytes ≤ 1099511627776 * 64 := Nat.mul_le_mul (by omega) hby
    omega
  exact Row.append_src (P := Tryz.prog) w t t t e i0 _ k bytes hu hi hz0 hz1 hz2 hk hk0 v n _ hown _ 1 _ hsrc (by unfold maxLen; omega) hb2

theorem thing_push (w : World) (v : Value) (n : Nat) (l : List Thing) (x : Thing) (hown : w.ownsRow 0 83 3 v n (l.flatMap thingC)) (b : Nat) (hb : w.heap[b]? = some (.cells #[.string x.path, .bool x.dir, .int .i64 (x.num : Int)] 83)) (hl : n < 1099511627776) :
    ∃ v' w', (Builtin.append_ #[39, 39] 39 #[v, .slice (some ⟨b, 0, none⟩) 1 1]).run Tryz.prog w = .ok v' w' ∧ w'.ownsRow 0 83 3 v' (n + 1) ((l ++ [x]).flatMap thingC) ∧ w.grownBy w' v.ownBlock ∧ (v'.ownBlock = v.ownBlock ∨ v'.ownBlock = some w.heap.size) := by
  rw [List.flatMap_append, show [x].flatMap thingC = thingC x from by simp]
  exact row_push Tryz.underlying39 thing_info rfl (by decide) (by decide) w v n _ hown (thingC x) rfl (by intro u hu; simp [thingC] at hu; rcases hu with rfl | rfl | rfl <;> rfl) b hb hl

/-- what was read of l's first j things -/
structure Out (w : World) (l : List Thing) (wr : World) (v : Value) : Prop where
  row : wr.ownsRow 0 83 3 v l.length (l.flatMap thingC)
  below : Below w.heap.size w wr
  fresh : ∀ k, v.ownBlock = some k → w.heap.size ≤ k

theorem Out.nil (w w' : World) (hb : Below w.heap.size w w') : Out w [] w' (.slice none 0 0) := ⟨World.ownsRow_nil _ _ _ _, hb, fun k hk => by cases hk⟩

theorem Out.shape {w wr : World} {l : List Thing} {v : Value} (h : Out w l wr v) : ∃ ao cap, v = .slice ao l.length cap := by
  obtain ⟨ao, cap, h1, _⟩ := row_open (f := thingC) (k := 3) (fun _ => rfl) h.row rfl
  exact ⟨ao, cap, h1⟩

theorem Out.alloc {w wr : World} {l : List Thing} {v : Value} (h : Out w l wr v) (o : Obj) : Out w l (wr.alloc o) v := ⟨h.row.alloc _, h.below.alloc h.below.size _, h.fresh⟩

theorem Out.push {w wr : World} {l : List Thing} {v : Value} (h : Out w l wr v) (x : Thing) (b : Nat) (hb : wr.heap[b]? = some (.cells #[.string x.path, .bool x.dir, .int .i64 (x.num : Int)] 83)) (hl : l.length < 1099511627776) :
    ∃ v' w', (Builtin.append_ #[39, 39] 39 #[v, .slice (some ⟨b, 0, none⟩) 1 1]).run Tryz.prog wr = .ok v' w' ∧ Out w (l ++ [x]) w' v' := by
  obtain ⟨v', w', h1, h2, h3, h4⟩ := thing_push wr v l.length l x h.row b hb hl
  refine ⟨v', w', h1, ?_, h.below.grown h3 h.below.size h.fresh, ?_⟩
  · rw [List.length_append]; exact h2
  · intro k hk
    rcases h4 with h4 | h4
    · rw [h4] at hk; exact h.fresh k hk
    · rw [h4] at hk; injection hk with hk; have := h.below.size; omega


theorem Out.set {w wr : World} {l : List Thing} {v : Value} (h : Out w l wr v) (x : Value) (o : Obj) : Out w l ((wr.alloc o).drew.setCell ⟨wr.heap.size, 0, none⟩ x) v := by
  have h1 := h.alloc o
  have ht : Turn (fun k => k = wr.heap.size) (wr.alloc o) ((wr.alloc o).drew.setCell ⟨wr.heap.size, 0, none⟩ x) := (Turn.of_drew 1 : Turn (fun k => k = wr.heap.size) (wr.alloc o) _).set _ _ (fun _ => rfl)
  refine ⟨row_turn h1.row ht fun k hk e => ?_, ?_, h.fresh⟩
  · have := row_lt h.row hk; omega
  · exact (h1.below.drewN 1).setCell (by show w.heap.size ≤ wr.heap.size; exact h.below.size) _

theorem applied_take {l : List Thing} {s : NStep} {j : Nat} (hj : j < l.length) : (l.take (j + 1)).filterMap (moved s) = (l.take j).filterMap (moved s) ++ (match moved s (l[j]'hj) with | none => [] | some y => [y]) := by
  rw [List.take_succ_eq_append_getElem hj, List.filterMap_append]
  congr 1
  simp only [List.filterMap_cons, List.filterMap_nil]
  cases moved s l[j] <;> rfl

set_option maxRecDepth 100000 in
set_option maxHeartbeats 300000 in
theorem apply4_ref {w : World} {v : Value} {l : List Thing} (h : w.ownsRow 0 83 3 v l.length (l.flatMap thingC)) (hl : l.length < 1000000000000) (a b : ByteArray) (num : Nat) (hs : ∀ x ∈ l, x.path.size < 4611686018427387904) (ha : a.size < 4611686018427387904) :
    Calls Tryz.prog 52 #[v, .agg #[.int .i64 4, .string a, .string b, .int .i64 (num : Int)]] w fun r w' => ∃ v', r = .returned v' ∧ Out w (l.filterMap (moved ⟨4, a, b, num⟩)) w' v' := by
  obtain ⟨N, hN⟩ : ∃ N, l.length = N := ⟨_, rfl⟩
  rw [hN] at h hl
  obtain ⟨ao, cap, rfl, hcap, hr⟩ := row_open (f := thingC) (k := 3) (fun _ => rfl) h hN
  have HR := Lib.hid hr
  have HN := Lib.hid hN
  have HS := Lib.hid hs
  clear h hr hN hs
  go_enter Tryz.func52, Tryz.ntmps52
  go_wp2_with fail
  have hO := Out.nil (w.alloc (.cells #[.int .i64 4, .string a, .string b, .int .i64 (num : Int)] 97)) _ (Below.refl _ _)
  have HO := Lib.hid hO
  clear hO
  obtain ⟨w1, hw1⟩ : ∃ w1, w.alloc (.cells #[.int .i64 4, .string a, .string b, .int .i64 (num : Int)] 97) = w1 := ⟨_, rfl⟩
  have hb0 : w1.heap[w.heap.size]? = some (.cells #[.int .i64 4, .string a, .string b, .int .i64 (num : Int)] 97) := by rw [← hw1]; exact heap_alloc_new w _
  have hR1 : Hid (RowAt w1 ao thingC 3 l) := Lib.hid (by
    subst hw1
    exact HR.out.below (below_alloc _ _))
  have hs1 : w1.heap.size = w.heap.size + 1 := by rw [← hw1]; simp
  rw [hw1]
  go_loopg [5, 6] N (fun r u i wr => ∃ (j : Nat), Hid (j + r = N) ∧ j ≤ N ∧ i = .int .i64 (j : Int) ∧ Hid (Out w1 ((l.take j).filterMap (moved ⟨4, a, b, num⟩)) wr u))
  case atStart => exact ⟨0, Nat.zero_add _, Nat.zero_le _, rfl, by rw [List.take_zero]; rw [hw1] at HO; exact HO⟩
  case round =>
    obtain ⟨j, hE, hj, rfl, HU⟩ := hrel
    by_cases hlt : j < N
    · have hjl : j < l.length := by rw [HN.out]; exact hlt
      obtain ⟨g, rfl, hg, hc⟩ := hR1.out j hjl
      have hbel := HU.out.below
      have hzl : w.heap.size < w1.heap.size := by omega
      have c0 : wr.cell? ⟨g, j * 3, none⟩ = some (.string (l[j]'hjl).path) := (hbel.cell hg).trans (hc 0 (by omega))
      have c1 : wr.cell? ⟨g, j * 3 + 1, none⟩ = some (.bool (l[j]'hjl).dir) := (hbel.cell hg).trans (hc 1 (by omega))
      have c2 : wr.cell? ⟨g, j * 3 + 2, none⟩ = some (.int .i64 ((l[j]'hjl).num : Int)) := (hbel.cell hg).trans (hc 2 (by omega))
      have z0 : wr.cell? ⟨w.heap.size, 0, none⟩ = some (.int .i64 4) := (hbel.cell hzl).trans (by rw [cell_of_row w1 w.heap.size 0 _ _ _ hb0]; rfl)
      have z1 : wr.cell? ⟨w.heap.size, 1, none⟩ = some (.string a) := (hbel.cell hzl).trans (by rw [cell_of_row w1 w.heap.size 1 _ _ _ hb0]; rfl)
      have z2 : wr.cell? ⟨w.heap.size, 2, none⟩ = some (.string b) := (hbel.cell hzl).trans (by rw [cell_of_row w1 w.heap.size 2 _ _ _ hb0]; rfl)
      have hin := fun W => inside_ref (l[j]'hjl).path a (HS.out _ (List.getElem_mem hjl)) ha W
      have htk := applied_take (s := ⟨4, a, b, num⟩) hjl
      have hcnt : ((l.take j).filterMap (moved ⟨4, a, b, num⟩)).length < 1099511627776 := by
        refine Nat.lt_of_le_of_lt (List.length_filterMap_le _ _) ?_
        rw [List.length_take]; omega
      obtain ⟨ua, uc, rfl⟩ := HU.out.shape
      obtain ⟨x, hx⟩ : ∃ x, l[j]'hjl = x := ⟨_, rfl⟩
      rw [hx] at c0 c1 c2 hin htk
      have hwl : w.heap.size < wr.heap.size := Nat.lt_of_lt_of_le hzl hbel.size
      have y0 : (wr.alloc (.cells #[.string x.path, .bool x.dir, .int .i64 (x.num : Int)] 83)).cell? ⟨w.heap.size, 0, none⟩ = some (.int .i64 4) := ((below_alloc wr _).cell hwl).trans z0
      have y1 : (wr.alloc (.cells #[.string x.path, .bool x.dir, .int .i64 (x.num : Int)] 83)).cell? ⟨w.heap.size, 1, none⟩ = some (.string a) := ((below_alloc wr _).cell hwl).trans z1
      have y2 : (wr.alloc (.cells #[.string x.path, .bool x.dir, .int .i64 (x.num : Int)] 83)).cell? ⟨w.heap.size, 2, none⟩ = some (.string b) := ((below_alloc wr _).cell hwl).trans z2
      obtain ⟨v', w', hrun, hpush⟩ := ((HU.out.alloc (.cells #[.string x.path, .bool x.dir, .int .i64 (x.num : Int)] 83)).alloc (.cells #[.string x.path, .bool x.dir, .int .i64 (x.num : Int)] 83)).push x _ (heap_alloc_new _ _) hcnt
      obtain ⟨LN, hLN⟩ : ∃ LN, ((l.take j).filterMap (moved ⟨4, a, b, num⟩)).length = LN := ⟨_, rfl⟩
      have hs2 : (wr.alloc (.cells #[.string x.path, .bool x.dir, .int .i64 (x.num : Int)] 83)).heap.size = wr.heap.size + 1 := by simp
      rw [hLN, hs2] at hrun
      rw [hLN] at HU
      have HRun := Lib.hid hrun
      have HPush := Lib.hid hpush
      have HTK := Lib.hid htk
      have HIN := Lib.hid hin
      clear hs2 hrun hpush htk hin hc hx hcnt hbel hzl hwl z0 z1 z2
      by_cases hpa : x.path = a
      · have b1 := bytes_eq hpa
        have hm : moved ⟨4, a, b, num⟩ x = none := by unfold moved; rw [if_pos rfl, if_pos (.inl hpa)]
        have HM := Lib.hid hm
        clear hm hpa
        go_wp2_with (go_at_call 62; ((with_reducible refine (HIN.out _).mono ?_); rintro r w2 ⟨rfl, rfl⟩))
        go_roundg (N - (j + 1))
        case measure => have := hE.out; omega
        case rel =>
          exact ⟨j + 1, by show _ = _; omega, by omega, by go_num, by show Out _ _ _ _; rw [HTK.out, HM.out, List.append_nil]; exact HU.out.alloc _⟩
      · have b1 := bytes_ne hpa
        cases hi : inside x.path a
        · rw [hi] at HIN
          have hm : moved ⟨4, a, b, num⟩ x = some x := by unfold moved; rw [if_pos rfl, if_neg (by rw [hi]; simp [hpa])]
          have HM := Lib.hid hm
          clear hm hpa hi
          go_wp2_with (first
            | (go_at_call 62; ((with_reducible refine (HIN.out _).mono ?_); rintro r w2 ⟨rfl, rfl⟩))
            | (at_builtin; refine Row.append_by rfl (.tmp 62) (.tmp 64) _ rfl _ _ rfl rfl HRun.out ?_))
          go_roundg (N - (j + 1))
          case measure => have := hE.out; omega
          case rel =>
            exact ⟨j + 1, by show _ = _; omega, by omega, by go_num, by show Out _ _ _ _; rw [HTK.out, HM.out]; exact HPush.out⟩
        · rw [hi] at HIN
          have hm : moved ⟨4, a, b, num⟩ x = none := by unfold moved; rw [if_pos rfl, if_pos (.inr hi)]
          have HM := Lib.hid hm
          clear hm hpa hi
          go_wp2_with (go_at_call 62; ((with_reducible refine (HIN.out _).mono ?_); rintro r w2 ⟨rfl, rfl⟩))
          go_roundg (N - (j + 1))
          case measure => have := hE.out; omega
          case rel =>
            exact ⟨j + 1, by show _ = _; omega, by omega, by go_num, by show Out _ _ _ _; rw [HTK.out, HM.out, List.append_nil]; exact HU.out.alloc _⟩
    · obtain rfl : j = N := by omega
      have hbel := HU.out.below
      have hzl : w.heap.size < w1.heap.size := by omega
      have z0 : wr.cell? ⟨w.heap.size, 0, none⟩ = some (.int .i64 4) := (hbel.cell hzl).trans (by rw [cell_of_row w1 w.heap.size 0 _ _ _ hb0]; rfl)
      have hall : l.take j = l := by rw [List.take_of_length_le]; rw [HN.out]; exact Nat.le_refl _
      rw [hall] at HU
      have HB1 : Hid (Below w.heap.size w w1) := Lib.hid (by rw [← hw1]; exact below_alloc _ _)
      clear hlt hE hbel hall hzl
      go_wp2
      go_ret
      exact ⟨_, rfl, HU.out.row, HB1.out.trans (HU.out.below.mono HB1.out.size), fun k hk => Nat.le_trans HB1.out.size (HU.out.fresh k hk)⟩

end Go.Proofs.YtmmlefbokplnnaaGreatDoor.Disk

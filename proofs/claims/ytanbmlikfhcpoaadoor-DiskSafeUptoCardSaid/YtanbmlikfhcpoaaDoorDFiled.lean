/-
  One file of a disk has turned; New, remainder, Used, All, Create, Sync. Own text.
-/
import Derived.Test.YtanbmlikfhcpoaaDoorDOpen
namespace Go.Proofs.YtanbmlikfhcpoaaDoor.Disk
open Go.RowKit Go Go.Proofs.YtanbmlikfhcpoaaDoor.Base Go.Proofs.YtanbmlikfhcpoaaDoor.Map

def upd {α : Type} (f : Nat → α) (i : Nat) (v : α) : Nat → α := fun j => if j = i then v else f j
theorem upd_same {α : Type} (f : Nat → α) (i : Nat) (v : α) : upd f i v i = v := by simp [upd]
theorem upd_other {α : Type} (f : Nat → α) {i j : Nat} (v : α) (h : j ≠ i) : upd f i v j = f j := by simp [upd, h]

def DiskG.file (G : DiskG) (i : Nat) (p : PF) (bv sv : Value) : DiskG := { G with pfs := G.pfs.set i p, bvs := upd G.bvs i bv, svs := upd G.svs i sv }

def locOk (w : World) (v v' : Value) : Prop := v'.ownBlock = v.ownBlock ∨ v'.ownBlock = none ∨ ∃ k, v'.ownBlock = some k ∧ w.heap.size ≤ k

theorem DiskAt.filed {w w' : World} {D : Nat} {G : DiskG} (h : DiskAt w D G) {i : Nat} (hi : i < G.pfs.length) {p : PF} {bv sv : Value} (hf : FileAt w' (G.ptr i) bv sv p) (ht : Turn (fileOwn (G.ptr i) (G.bvs i) (G.svs i)) w w') (hb : locOk w (G.bvs i) bv) (hs : locOk w (G.svs i) sv) :
    DiskAt w' D (G.file i p bv sv) := by
  obtain ⟨n1, n2, n3, n4, n5⟩ := h.parts.notD h.kind
  have hfi := h.parts.files i hi
  have hlen : (G.file i p bv sv).pfs.length = G.pfs.length := by show (G.pfs.set i p).length = _; simp
  have hD : w'.heap[D]? = w.heap[D]? := ht.block D h.lt fun hh => n5 i hi D hh rfl
  have noM : ∀ k, isMap w k → ¬ fileOwn (G.ptr i) (G.bvs i) (G.svs i) k := fun k hk hh => by
    rcases hfi.kinds hh with h1 | h1 | h1 <;> exact h1.noMap hk
  refine ⟨hD.trans h.block, h.parts.cur.of_heap fun b hb' => ht.block b (h.parts.cur.lt b hb') (noM b (h.parts.cur.maps b hb')), h.parts.dur.of_heap fun b hb' => ht.block b (h.parts.dur.lt b hb') (noM b (h.parts.dur.maps b hb')), h.parts.trees, ?_, ?_, ?_, ?_, ?_, ?_⟩
  · refine row_turn h.parts.row ht fun k hk hh => ?_
    rcases hfi.kinds hh with h1 | h1 | h1 <;> exact h1.ne (row_kind h.parts.row hk) (by decide) rfl
  · intro x hx
    refine (h.parts.steps x hx).of_heap fun b hb' => ht.block b ((h.parts.steps x hx).lt b hb') fun hh => ?_
    rcases hfi.kinds hh with h1 | h1 | h1 <;> rcases (h.parts.steps x hx).kinds b hb' with h2 | h2 <;> exact h1.ne h2 (by decide) rfl
  · intro j hj
    rw [hlen] at hj
    by_cases hji : j = i
    · subst hji
      have e : (G.file j p bv sv).pfs[j]'(by rw [hlen]; exact hi) = p := by simp [DiskG.file]
      have e2 : (G.file j p bv sv).bvs j = bv := upd_same _ _ _
      have e3 : (G.file j p bv sv).svs j = sv := upd_same _ _ _
      rw [e, e2, e3]
      exact hf
    · have e : (G.file i p bv sv).pfs[j]'(by rw [hlen]; exact hj) = G.pfs[j] := by simp [DiskG.file, Ne.symm hji]
      have e2 : (G.file i p bv sv).bvs j = G.bvs j := upd_other _ _ hji
      have e3 : (G.file i p bv sv).svs j = G.svs j := upd_other _ _ hji
      rw [e, e2, e3]
      refine (h.parts.files j hj).turn ht fun k hk hh => ?_
      have hfj := h.parts.files j hj
      rcases hk with hk | hk | hk <;> rcases hh with hh | hh | hh
      · exact hji (h.parts.inj j i hj hi (by rw [← hk, ← hh]))
      · have h1 := row_kind hfi.bytes hh; exact h1.ne (⟨_, _, hfj.cells⟩ : isK w (G.ptr j) _) (by decide) hk
      · have h1 := row_kind hfi.steps hh; exact h1.ne (⟨_, _, hfj.cells⟩ : isK w (G.ptr j) _) (by decide) hk
      · have h1 := row_kind hfj.bytes hk; exact h1.ne (⟨_, _, hfi.cells⟩ : isK w (G.ptr i) _) (by decide) hh
      · exact hji (h.parts.bytes j i k hj hi hk hh)
      · exact (row_kind hfj.bytes hk).ne (row_kind hfi.steps hh) (by decide) rfl
      · have h1 := row_kind hfj.steps hk; exact h1.ne (⟨_, _, hfi.cells⟩ : isK w (G.ptr i) _) (by decide) hh
      · exact (row_kind hfj.steps hk).ne (row_kind hfi.bytes hh) (by decide) rfl
      · exact hji (h.parts.rows j i k hj hi hk hh)
  · intro a b ha hb'
    rw [hlen] at ha hb'
    exact h.parts.inj a b ha hb'
  · intro a b k ha hb' h1 h2
    rw [hlen] at ha hb'
    have key : ∀ c, c < G.pfs.length → c ≠ i → (G.bvs c).ownBlock = some k → bv.ownBlock = some k → False := fun c hc hci e1 e2 => by
      rcases hb with h3 | h3 | ⟨q, h3, h4⟩
      · exact hci (h.parts.bytes c i k hc hi e1 (by rw [← h3]; exact e2))
      · rw [h3] at e2; cases e2
      · rw [h3] at e2; injection e2 with e2; have := row_lt (h.parts.files c hc).bytes e1; omega
    by_cases hai : a = i <;> by_cases hbi : b = i
    · rw [hai, hbi]
    · exact absurd (key b hb' hbi (by have e : (G.file i p bv sv).bvs b = G.bvs b := upd_other _ _ hbi; rw [e] at h2; exact h2) (by subst hai; have e : (G.file a p bv sv).bvs a = bv := upd_same _ _ _; rw [e] at h1; exact h1)) id
    · exact absurd (key a ha hai (by have e : (G.file i p bv sv).bvs a = G.bvs a := upd_other _ _ hai; rw [e] at h1; exact h1) (by subst hbi; have e : (G.file b p bv sv).bvs b = bv := upd_same _ _ _; rw [e] at h2; exact h2)) id
    · have e : (G.file i p bv sv).bvs b = G.bvs b := upd_other _ _ hbi
      have e' : (G.file i p bv sv).bvs a = G.bvs a := upd_other _ _ hai
      rw [e] at h2; rw [e'] at h1
      exact h.parts.bytes a b k ha hb' h1 h2
  · intro a b k ha hb' h1 h2
    rw [hlen] at ha hb'
    have key : ∀ c, c < G.pfs.length → c ≠ i → (G.svs c).ownBlock = some k → sv.ownBlock = some k → False := fun c hc hci e1 e2 => by
      rcases hs with h3 | h3 | ⟨q, h3, h4⟩
      · exact hci (h.parts.rows c i k hc hi e1 (by rw [← h3]; exact e2))
      · rw [h3] at e2; cases e2
      · rw [h3] at e2; injection e2 with e2; have := row_lt (h.parts.files c hc).steps e1; omega
    by_cases hai : a = i <;> by_cases hbi : b = i
    · rw [hai, hbi]
    · exact absurd (key b hb' hbi (by have e : (G.file i p bv sv).svs b = G.svs b := upd_other _ _ hbi; rw [e] at h2; exact h2) (by subst hai; have e : (G.file a p bv sv).svs a = sv := upd_same _ _ _; rw [e] at h1; exact h1)) id
    · exact absurd (key a ha hai (by have e : (G.file i p bv sv).svs a = G.svs a := upd_other _ _ hai; rw [e] at h1; exact h1) (by subst hbi; have e : (G.file b p bv sv).svs b = sv := upd_same _ _ _; rw [e] at h2; exact h2)) id
    · have e : (G.file i p bv sv).svs b = G.svs b := upd_other _ _ hbi
      have e' : (G.file i p bv sv).svs a = G.svs a := upd_other _ _ hai
      rw [e] at h2; rw [e'] at h1
      exact h.parts.rows a b k ha hb' h1 h2

/-- what a file's turning leaves to the disk -/
theorem own_file {w : World} {D : Nat} {G : DiskG} {i : Nat} (hi : i < G.pfs.length) {p : PF} {bv sv : Value} (hb : locOk w (G.bvs i) bv) (hs : locOk w (G.svs i) sv) {k : Nat} (hk : (G.file i p bv sv).own D k) : G.own D k ∨ w.heap.size ≤ k := by
  rcases hk with hk | hk | hk | hk | hk | ⟨j, hj, hk⟩
  · exact .inl (.inl hk)
  · exact .inl (.inr (.inl hk))
  · exact .inl (.inr (.inr (.inl hk)))
  · exact .inl (.inr (.inr (.inr (.inl hk))))
  · exact .inl (.inr (.inr (.inr (.inr (.inl hk)))))
  · have hj : j < G.pfs.length := by have : (G.file i p bv sv).pfs.length = G.pfs.length := by show (G.pfs.set i p).length = _; simp
                                     omega
    have old : fileOwn (G.ptr j) (G.bvs j) (G.svs j) k → G.own D k := fun h => .inr (.inr (.inr (.inr (.inr ⟨j, hj, h⟩))))
    by_cases hji : j = i
    · subst hji
      have e2 : (G.file j p bv sv).bvs j = bv := upd_same _ _ _
      have e3 : (G.file j p bv sv).svs j = sv := upd_same _ _ _
      rw [e2, e3] at hk
      rcases hk with hk | hk | hk
      · exact .inl (old (.inl hk))
      · rcases hb with h3 | h3 | ⟨q, h3, h4⟩
        · rw [h3] at hk; exact .inl (old (.inr (.inl hk)))
        · rw [h3] at hk; cases hk
        · rw [h3] at hk; injection hk with hk; exact .inr (by omega)
      · rcases hs with h3 | h3 | ⟨q, h3, h4⟩
        · rw [h3] at hk; exact .inl (old (.inr (.inr hk)))
        · rw [h3] at hk; cases hk
        · rw [h3] at hk; injection hk with hk; exact .inr (by omega)
    · have e2 : (G.file i p bv sv).bvs j = G.bvs j := upd_other _ _ hji
      have e3 : (G.file i p bv sv).svs j = G.svs j := upd_other _ _ hji
      rw [e2, e3] at hk
      exact .inl (old hk)

theorem remainder_any (n : Int) (by' : Nat) (hn : -9223372036854775808 ≤ n ∧ n ≤ 9223372036854775807) (hb : 0 < by') (hb2 : by' < 4611686018427387904) (w : World) : Calls Tryd.prog 23 #[.int .i64 n, .int .i64 (by' : Int)] w fun e w' => e = .returned (.int .i64 ((share n (by' - 1) : Nat) : Int)) ∧ w = w' := by
  have e1 : share n (by' - 1) = if n < 0 then 0 else n.toNat % by' := by unfold share; rw [show by' - 1 + 1 = by' from by omega]
  have hbi : ¬ (by' : Int) = 0 := by omega
  have hm : (max n 0).tmod (by' : Int) = ((share n (by' - 1) : Nat) : Int) := by
    rw [Int.tmod_eq_emod_of_nonneg (by omega), e1]
    split
    · rename_i h; rw [show max n 0 = 0 from by omega]; simp
    · rename_i h
      rw [show max n 0 = ((n.toNat : Nat) : Int) from by omega, ← Int.natCast_emod]
  have Hn := Lib.hid hn
  clear hn
  go_enter Tryd.func23, Tryd.ntmps23
  go_wp2
  all_goals
    go_ret
    exact ⟨rfl, rfl⟩

/-- a disk as New makes it -/
def newG (c : Int) : DiskG := { gc := ⟨none, []⟩, gd := ⟨none, []⟩, ptr := fun _ => 0, pfs := [], bvs := fun _ => .slice none 0 0, svs := fun _ => .slice none 0 0, steps := [], nv := .slice none 0 0, cap := (min (max c 0) 67108864).toNat, used := 0, off := false, crash := 0 }

theorem new_any (c : Int) (w : World) : Calls Tryd.prog 5 #[.int .i64 c] w fun e w' => e = .returned (.pointer (some ⟨w.heap.size, 0, none⟩)) ∧ DiskAt w' w.heap.size (newG c) ∧ Below w.heap.size w w' := by
  have hcap : min (max c 0) 67108864 = (((min (max c 0) 67108864).toNat : Nat) : Int) := by omega
  have hd : DiskAt (w.alloc (.cells (newG c).cells 46)) w.heap.size (newG c) := by
    have t0 : TreeAt (w.alloc (.cells (newG c).cells 46)) (fun _ => 0) ⟨none, []⟩ := ⟨fun _ => rfl, fun fm h => (by cases h), fun x hx => (by cases hx), (by simp [TreeG.blocks])⟩
    exact ⟨heap_alloc_new w _, ⟨t0, t0, fun b hb => (by simp [TreeG.blocks, newG] at hb), World.ownsRow_nil _ _ _ _, fun x hx => (by cases hx), fun i hi => (by cases hi), fun i j hi => (by cases hi), fun i j k hi => (by cases hi), fun i j k hi => (by cases hi)⟩⟩
  have HD := Lib.hid hd
  have HC := Lib.hid hcap
  clear hd hcap
  go_enter Tryd.func5, Tryd.ntmps5
  go_wp2
  go_ret
  have e : (newG c).cells = #[.map none, .map none, .slice none 0 0, .int .i64 (min (max c 0) 67108864), .int .i64 0, .bool false, .int .i64 0] := by
    unfold newG DiskG.cells topV
    simp only
    rw [← HC.out]
    rfl
  have := HD.out
  rw [e] at this
  exact ⟨rfl, this, below_alloc _ _⟩

theorem used_nil (w : World) : Calls Tryd.prog 15 #[.pointer none] w fun e w' => e = .returned (.int .i64 0) ∧ w = w' := by
  have h := off_nil w
  go_enter Tryd.func15, Tryd.ntmps15
  go_wp2_with (go_at_call 14; refine h.mono ?_; rintro r w2 ⟨rfl, rfl⟩)
  go_ret
  exact ⟨rfl, rfl⟩

theorem used_any {w : World} {D : Nat} {G : DiskG} (h : DiskAt w D G) : Calls Tryd.prog 15 #[.pointer (some ⟨D, 0, none⟩)] w fun e w' => e = .returned (.int .i64 (if G.off then 0 else (G.used : Int))) ∧ w = w' := by
  have c4 : w.cell? ⟨D, 4, none⟩ = some (.int .i64 (G.used : Int)) := h.cell 4
  have ho := off_any h
  clear h
  cases hof : G.off
  all_goals
    rw [hof] at ho
    go_enter Tryd.func15, Tryd.ntmps15
    go_wp2_with (go_at_call 14; refine ho.mono ?_; rintro r w2 ⟨rfl, rfl⟩)
    go_ret
    exact ⟨rfl, rfl⟩

/-- Create -/
theorem Create_any {w : World} {D : Nat} {G : DiskG} {E : Nat → Addr} (h : DiskAt w D G) (he : Env w E) (hn : NumsOk G) (hc : G.crash < 4611686018427387904) (hown : ∀ k, k < 8 → ¬ G.own D k) (hw8 : 8 ≤ w.heap.size) (hlen : G.steps.length < 1099511627776) (p : ByteArray) (hp : p.size < 4294967281) :
    Calls Tryd.prog 7 #[.pointer (some ⟨D, 0, none⟩), .string p] w fun r w' =>
      ∃ v G', r = .returned v ∧ ErrAt w' E v (createCode G p) "create".toUTF8 p ∧ DiskAt w' D G' ∧ Turn (G.own D) w w' ∧ Created w G p (createCode G p) G' ∧ (∀ k, G'.own D k → G.own D k ∨ w.heap.size ≤ k) := by
  have h1 := create_any h he hn hc hown hw8 hlen p hp
  have h2 := fun W => refused_err ⟨#[99, 114, 101, 97, 116, 101]⟩ p E (createCode G p) W
  have H1 := Lib.hid h1
  have H2 := Lib.hid h2
  clear h he hn hc hown hlen hp h1 h2
  go_enter Tryd.func7, Tryd.ntmps7
  go_wp2_with (first
    | (go_at_call 18; ((with_reducible refine H1.out.mono ?_); rintro r w2 ⟨rfl, G', hd, ht, hcr, hnew⟩))
    | (go_at_call 16; ((with_reducible refine (H2.out _).mono ?_); rintro r w3 ⟨v, rfl, hv, hb⟩)))
  go_ret
  exact ⟨_, G', rfl, hv, hd.below hb, ht.trans (Turn.of_below hb : Turn (fun _ => False) _ _) (fun _ _ h => h.elim), hcr, hnew⟩

end Go.Proofs.YtanbmlikfhcpoaaDoor.Disk

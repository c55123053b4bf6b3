/-
  The texts NPair, NCalls, joined. Own text.
-/
import Derived.Test.YtmmlefbokplnnaaGreatDoorJ22
import Derived.Test.YtmmlefbokplnnaaGreatDoorJ28
import Derived.Test.YtmmlefbokplnnaaGreatDoorJ32
import Derived.Test.YtmmlefbokplnnaaGreatDoorJ31
import Derived.Test.YtmmlefbokplnnaaGreatDoorJ34
import Derived.Test.YtmmlefbokplnnaaGreatDoorJ21
set_option linter.unusedVariables false
set_option linter.unusedSimpArgs false
namespace Go.Proofs.YtmmlefbokplnnaaGreatDoor.Disk
open Go.RowKit Go Go.Proofs.YtmmlefbokplnnaaGreatDoor.Base Go.Proofs.YtmmlefbokplnnaaGreatDoor.Map

section
variable {w w' : World} {D R : Nat} {G G' : DiskG} {q q' : RefG} {m m' : M} {E : Nat → Addr}

theorem ownD_not (h : DiskAt w D G) {k : Nat} {e : TypeId} (hk : isK w k e) (h1 : e ≠ 63) (h2 : e ≠ 126) (h3 : e ≠ 9) (h4 : e ≠ 88) (h5 : e ≠ 94) (h6 : e ≠ 5) (h7 : e ≠ 135) : ¬ G.own D k := by
  rintro (rfl | hb | hb | hb | ⟨x, hx, hb⟩ | ⟨i, hi, hb⟩)
  · exact h1 (hk.one h.kind)
  · exact hk.noMap (h.parts.cur.maps _ hb)
  · exact hk.noMap (h.parts.dur.maps _ hb)
  · exact h2 (hk.one (row_kind h.parts.row hb))
  · rcases (h.parts.steps x hx).kinds k hb with h0 | h0
    · exact h3 (hk.one h0)
    · exact h4 (hk.one h0)
  · rcases (h.parts.files i hi).kinds hb with h0 | h0 | h0
    · exact h5 (hk.one h0)
    · exact h6 (hk.one h0)
    · exact h7 (hk.one h0)

theorem ownR_kind (h : RefAt w R q m) {k : Nat} (hk : q.own R k) : isK w k 43 ∨ isK w k 97 ∨ isK w k 101 ∨ isK w k 120 := by
  rcases hk with rfl | hb | hb | ⟨v, hv, hb⟩
  · exact .inl h.kind
  · exact .inr (.inl (row_kind h.steps hb))
  · exact .inr (.inr (.inl (row_kind h.files hb)))
  · exact .inr (.inr (.inr (h.parts.kindC v hv k hb)))

theorem ownR_not (h : RefAt w R q m) {k : Nat} {e : TypeId} (hk : isK w k e) (h1 : e ≠ 43) (h2 : e ≠ 97) (h3 : e ≠ 101) (h4 : e ≠ 120) : ¬ q.own R k := fun ho => by
  rcases ownR_kind h ho with h0 | h0 | h0 | h0
  · exact h1 (hk.one h0)
  · exact h2 (hk.one h0)
  · exact h3 (hk.one h0)
  · exact h4 (hk.one h0)
theorem ownR_map (h : RefAt w R q m) {k : Nat} (hk : isMap w k) : ¬ q.own R k := fun ho => by
  rcases ownR_kind h ho with h0 | h0 | h0 | h0 <;> exact h0.noMap hk

theorem keepRef (hd : DiskAt w D G) (h : RefAt w R q m) (ht : Turn (G.own D) w w') : RefAt w' R q m := by
  have no : ∀ {k e}, isK w k e → (e = 43 ∨ e = 83 ∨ e = 97 ∨ e = 101 ∨ e = 120) → ¬ G.own D k := fun {k e} hk he => by
    rcases he with rfl | rfl | rfl | rfl | rfl <;> exact ownD_not hd hk (by decide) (by decide) (by decide) (by decide) (by decide) (by decide) (by decide)
  exact h.of_heap ht (no h.kind (.inl rfl)) (fun k hk => no (row_kind h.things hk) (.inr (.inl rfl))) (fun k hk => no (row_kind h.safe hk) (.inr (.inl rfl))) (fun k hk => no (row_kind h.steps hk) (.inr (.inr (.inl rfl))))
    (fun k hk => no (row_kind h.files hk) (.inr (.inr (.inr (.inl rfl))))) (fun v hv k hk => no (h.parts.kindC v hv k hk) (.inr (.inr (.inr (.inr rfl)))))

theorem keepDisk (hd : DiskAt w D G) (h : RefAt w R q m) (ht : Turn (q.own R) w w') : DiskAt w' D G := by
  have no : ∀ {k e}, isK w k e → (e = 63 ∨ e = 126 ∨ e = 9 ∨ e = 88 ∨ e = 94 ∨ e = 5 ∨ e = 135) → ¬ q.own R k := fun {k e} hk he => by
    rcases he with rfl | rfl | rfl | rfl | rfl | rfl | rfl <;> exact ownR_not h hk (by decide) (by decide) (by decide) (by decide)
  refine ⟨(ht.block D hd.lt (no hd.kind (.inl rfl))).trans hd.block, hd.parts.turn ht (fun b hb => ownR_map h (hd.parts.cur.maps b hb)) (fun b hb => ownR_map h (hd.parts.dur.maps b hb)) (fun k hk => no (row_kind hd.parts.row hk) (.inr (.inl rfl))) (fun x hx b hb => ?_) (fun i hi k hk => ?_)⟩
  · rcases (hd.parts.steps x hx).kinds b hb with h0 | h0
    · exact no h0 (.inr (.inr (.inl rfl)))
    · exact no h0 (.inr (.inr (.inr (.inl rfl))))
  · rcases (hd.parts.files i hi).kinds hk with h0 | h0 | h0
    · exact no h0 (.inr (.inr (.inr (.inr (.inl rfl)))))
    · exact no h0 (.inr (.inr (.inr (.inr (.inr (.inl rfl))))))
    · exact no h0 (.inr (.inr (.inr (.inr (.inr (.inr rfl))))))

/-- what a block's cells hold stays -/
def Keeps (P : Nat) (w w' : World) : Prop := ∀ i v, w.cell? ⟨P, i, none⟩ = some v → w'.cell? ⟨P, i, none⟩ = some v
/-- the failures that are about stay -/
def ErrKeeps (E : Nat → Addr) (w w' : World) : Prop := ∀ v c op p, ErrAt w E v c op p → ErrAt w' E v c op p

/-- the two disks; P: a call that came in; all that they write lies at b0 or behind it -/
structure Pair (b0 : Nat) (E : Nat → Addr) (D R P : Nat) (G : DiskG) (q : RefG) (m : M) (w : World) : Prop where
  env : EnvD w E
  disk : DiskAt w D G
  ref : RefAt w R q m
  dnew : ∀ k, G.own D k → b0 ≤ k
  rnew : ∀ k, q.own R k → b0 ≤ k
  low : 8 ≤ b0
  lowE : ∀ c, 1 ≤ c → c ≤ 7 → (E c).block < b0
  size : b0 ≤ w.heap.size
  op : isK w P 31 ∨ P < b0

variable {b0 P : Nat}

theorem isK.turn {S : Nat → Prop} {k : Nat} {e : TypeId} (h : isK w k e) (ht : Turn S w w') (hn : ¬ S k) : isK w' k e := by
  obtain ⟨c, f, h0⟩ := h
  exact ⟨c, f, (ht.block k (Array.getElem?_eq_some_iff.1 h0).1 hn).trans h0⟩
theorem isK.lt {k : Nat} {e : TypeId} (h : isK w k e) : k < w.heap.size := by
  obtain ⟨c, f, h0⟩ := h
  exact (Array.getElem?_eq_some_iff.1 h0).1

theorem errKeeps {S : Nat → Prop} (ht : Turn S w w') (hn : ∀ k, isK w k 114 → ¬ S k) : ErrKeeps E w w' := by
  rintro v c op p (⟨h1, h2⟩ | ⟨h1, B, h2, h3⟩)
  · exact .inl ⟨h1, h2⟩
  · exact .inr ⟨h1, B, h2, (ht.block B (Array.getElem?_eq_some_iff.1 h3).1 (hn B ⟨_, _, h3⟩)).trans h3⟩
theorem keeps {S : Nat → Prop} (ht : Turn S w w') (hn : ¬ S P) : Keeps P w w' := fun i v h => ht.cell h hn

theorem Pair.notD (h : Pair b0 E D R P G q m w) : ¬ G.own D P := by
  rcases h.op with h1 | h1
  · exact ownD_not h.disk h1 (by decide) (by decide) (by decide) (by decide) (by decide) (by decide) (by decide)
  · exact fun hh => by have := h.dnew P hh; omega
theorem Pair.notR (h : Pair b0 E D R P G q m w) : ¬ q.own R P := by
  rcases h.op with h1 | h1
  · exact ownR_not h.ref h1 (by decide) (by decide) (by decide) (by decide)
  · exact fun hh => by have := h.rnew P hh; omega

/-- the program's disk was called -/
theorem Pair.called (h : Pair b0 E D R P G q m w) (hd : DiskAt w' D G') (ht : Turn (G.own D) w w') (hn : ∀ k, G'.own D k → G.own D k ∨ w.heap.size ≤ k) :
    Pair b0 E D R P G' q m w' ∧ Keeps P w w' ∧ ErrKeeps E w w' ∧ Below b0 w w' := by
  refine ⟨⟨h.env.turn ht h.dnew h.low h.lowE, hd, keepRef h.disk h.ref ht, fun k hk => ?_, h.rnew, h.low, h.lowE, Nat.le_trans h.size ht.size, h.op.imp (fun hh => hh.turn ht h.notD) id⟩, keeps ht h.notD, errKeeps ht fun k hk => ownD_not h.disk hk (by decide) (by decide) (by decide) (by decide) (by decide) (by decide) (by decide), ht.below h.size fun i hi hs => by have := h.dnew i hs; omega⟩
  rcases hn k hk with h1 | h1
  · exact h.dnew k h1
  · exact Nat.le_trans h.size h1

/-- the document's disk was called -/
theorem Pair.reffed (h : Pair b0 E D R P G q m w) (hd : RefDone w R q w' q' m') : Pair b0 E D R P G q' m' w' ∧ Keeps P w w' ∧ ErrKeeps E w w' ∧ Below b0 w w' := by
  refine ⟨⟨h.env.turn hd.turn h.rnew h.low h.lowE, keepDisk h.disk h.ref hd.turn, hd.at', h.dnew, fun k hk => ?_, h.low, h.lowE, Nat.le_trans h.size hd.turn.size, h.op.imp (fun hh => hh.turn hd.turn h.notR) id⟩, keeps hd.turn h.notR, errKeeps hd.turn fun k hk => ownR_not h.ref hk (by decide) (by decide) (by decide) (by decide), hd.turn.below h.size fun i hi hs => by have := h.rnew i hs; omega⟩
  rcases hd.own k hk with h1 | h1
  · exact h.rnew k h1
  · exact Nat.le_trans h.size h1

/-- nothing old was written -/
theorem Pair.below (h : Pair b0 E D R P G q m w) (hb : Below w.heap.size w w') : Pair b0 E D R P G q m w' ∧ Keeps P w w' ∧ ErrKeeps E w w' ∧ Below b0 w w' := by
  have ht : Turn (fun _ => False) w w' := Turn.of_below hb
  exact ⟨⟨h.env.below hb, h.disk.below hb, h.ref.below hb, h.dnew, h.rnew, h.low, h.lowE, Nat.le_trans h.size hb.size, h.op.imp (fun hh => hh.turn ht id) id⟩, keeps ht id, errKeeps ht fun _ _ => id, ht.below h.size fun _ _ => id⟩

theorem Pair.free (h : Pair b0 E D R P G q m w) : Pair b0 E D R 0 G q m w := ⟨h.env, h.disk, h.ref, h.dnew, h.rnew, h.low, h.lowE, h.size, .inr (by have := h.low; omega)⟩
/-- a call comes in -/
theorem Pair.boxed (h : Pair b0 E D R P G q m w) (cs : Array Value) : Pair b0 E D R w.heap.size G q m (w.alloc (.cells cs 31)) ∧ Below b0 w (w.alloc (.cells cs 31)) := by
  obtain ⟨h1, _, _, h4⟩ := h.below (below_alloc w (.cells cs 31))
  exact ⟨⟨h1.env, h1.disk, h1.ref, h1.dnew, h1.rnew, h1.low, h1.lowE, h1.size, .inl ⟨_, _, heap_alloc_new w _⟩⟩, h4⟩

theorem Pair.own8 (h : Pair b0 E D R P G q m w) : ∀ k, k < 8 → ¬ G.own D k := fun k hk hh => by have := h.dnew k hh; have := h.low; omega
theorem Pair.w8 (h : Pair b0 E D R P G q m w) : 8 ≤ w.heap.size := Nat.le_trans h.low h.size

end
end Go.Proofs.YtmmlefbokplnnaaGreatDoor.Disk

namespace Go.Proofs.YtmmlefbokplnnaaGreatDoor.Disk
open Go.RowKit Go Go.Proofs.YtmmlefbokplnnaaGreatDoor.Base Go.Proofs.YtmmlefbokplnnaaGreatDoor.Map

/-- a call of the program's disk, and what it leaves -/
def DOut (b0 : Nat) (E : Nat → Addr) (D R P : Nat) (q : RefG) (m : M) (W : World) (op p : ByteArray) (c : Nat) (m1 : M) (S1 : Nat) (r : Ending) (w' : World) : Prop :=
  ∃ v G', r = .returned v ∧ ErrAt w' E v c op p ∧ Pair b0 E D R P G' q m w' ∧ Rel G' m1 S1 ∧ Keeps P W w' ∧ Below b0 W w'
/-- a call of the document's disk, and what it leaves -/
def ROut (b0 : Nat) (E : Nat → Addr) (D R P : Nat) (G : DiskG) (W : World) (c : Nat) (m1 : M) (r : Ending) (w' : World) : Prop :=
  r = .returned (.int .i64 (c : Int)) ∧ ∃ q', Pair b0 E D R P G q' m1 w' ∧ Keeps P W w' ∧ ErrKeeps E W w' ∧ Below b0 W w'

section
variable {b0 D R P S : Nat} {E : Nat → Addr} {G : DiskG} {q : RefG} {m m0 : M} {W : World}

theorem dOut {f : FuncId} {args : Array Value} {op p : ByteArray} {c : Nat} {m1 : M} {S1 : Nat} {Done : DiskG → Prop} (h : Pair b0 E D R P G q m W)
    (hc : Calls Tryz.prog f args W fun r w' => ∃ v G', r = .returned v ∧ ErrAt w' E v c op p ∧ DiskAt w' D G' ∧ Turn (G.own D) W w' ∧ Done G' ∧ (∀ k, G'.own D k → G.own D k ∨ W.heap.size ≤ k)) (hr : ∀ G', Done G' → Rel G' m1 S1) :
    Calls Tryz.prog f args W (DOut b0 E D R P q m W op p c m1 S1) := by
  refine hc.mono fun r w' hh => ?_
  obtain ⟨v, G', h1, h2, h3, h4, h5, h6⟩ := hh
  obtain ⟨p1, p2, p3, p4⟩ := h.called h3 h4 h6
  exact ⟨v, G', h1, h2, p1, hr G' h5, p2, p4⟩

theorem rOut {f : FuncId} {args : Array Value} {c : Nat} {m1 : M} (h : Pair b0 E D R P G q m W) (hc : Calls Tryz.prog f args W fun r w' => r = .returned (.int .i64 (c : Int)) ∧ ∃ q', RefDone W R q w' q' m1) :
    Calls Tryz.prog f args W (ROut b0 E D R P G W c m1) := by
  refine hc.mono fun r w' hh => ?_
  obtain ⟨h1, q', h2⟩ := hh
  exact ⟨h1, q', h.reffed h2⟩
theorem rOut3 {f : FuncId} {args : Array Value} {c : Nat} {m1 : M} (h : Pair b0 E D R P G q m W) (hc : Calls Tryz.prog f args W fun r w' => r = .returned (.int .i64 (c : Int)) ∧ ∃ q', RefDone W R q w' q' m1 ∧ q'.fv = q.fv ∧ q'.cs = q.cs) :
    Calls Tryz.prog f args W (ROut b0 E D R P G W c m1) :=
  rOut h (hc.mono fun _ _ ⟨h1, q', h2, _⟩ => ⟨h1, q', h2⟩)

theorem Rel.slen (hr : Rel G m0 S) (hS : S ≤ 1048576) : G.steps.length < 1099511627776 := by rw [hr.nslen]; have := hr.ns; omega
theorem Rel.bytes (hr : Rel G m0 S) (hS : S ≤ 1048576) : ∀ i, i < G.pfs.length → (pfAt G i).bytes.length < 549755813888 := fun i hi => by
  have := (hr.good i (by rw [← hr.len]; exact hi)).1.len; omega
theorem unitsOf_mem {l : List PStep} {s : PStep} (h : s ∈ l) : s.units ≤ unitsOf l := by
  obtain ⟨a, b, rfl⟩ := List.append_of_mem h
  rw [unitsOf_append]
  have : unitsOf (s :: b) = s.units + unitsOf b := by simp [unitsOf]
  omega
theorem usedBy_mem (fs : List FB) {l : List Thing} {x : Thing} (h : x ∈ l) : usedBy fs [x] ≤ usedBy fs l := by
  obtain ⟨a, b, rfl⟩ := List.append_of_mem h
  rw [usedBy_append, usedBy_cons fs x b, usedBy_cons fs x []]
  have : usedBy fs [] = 0 := rfl
  omega
theorem Rel.fileLe' (hr : Rel G m0 S) {p : ByteArray} {i : Nat} (hf : fileOf G.gc p = some i) : (pfAt G i).bytes.length ≤ G.used := by
  obtain ⟨t, h1, h2, h3, h4, h5⟩ := (hr.cur.files _ _ _).1 ((fileOf_iff hr.cur.ok).1 hf)
  obtain ⟨x, k1, k2, k3, k4, k5⟩ := hr.one (p := t.path) (i := i) ⟨t, h1, h2, rfl, h5⟩
  rw [← k5, hr.used]
  exact usedBy_mem _ k1
theorem Rel.sizeLe' (hr : Rel G m0 S) (p : ByteArray) : sizeG G p ≤ G.used := by
  unfold sizeG
  cases hf : fileOf G.gc p with
  | some i => exact hr.fileLe' hf
  | none =>
    simp only
    cases hl : lookDir G.gc p with
    | none => exact Nat.zero_le _
    | some x =>
      simp only
      rw [hr.lens hl, hr.used]
      exact usedBy_sub _ _ _
theorem Rel.usedLt (hr : Rel G m0 S) (hS : S ≤ 1048576) : G.used < 1152921504606846976 := by
  have h1 := hr.usedl
  have h2 : S * S ≤ 1048576 * 1048576 := Nat.mul_le_mul hS hS
  rw [hr.used]; omega
theorem Rel.lensLt (hr : Rel G m0 S) (hS : S ≤ 1048576) (p : ByteArray) : ∀ x, lookDir G.gc p = some x → lensOf G x.files < 1152921504606846976 := fun x hx => by
  have h1 := hr.lensLe hx
  have h2 : S * S ≤ 1048576 * 1048576 := Nat.mul_le_mul hS hS
  omega

theorem d_mkdir (h : Pair b0 E D R P G q m W) (hr : Rel G m0 S) (hS : S ≤ 1048576) (d : ByteArray) (hd : d.size < 4294967281) :
    Calls Tryz.prog 26 #[.pointer (some ⟨D, 0, none⟩), .string d] W (DOut b0 E D R P q m W ⟨#[109, 107, 100, 105, 114]⟩ d (m0.mkdir d).1 (m0.mkdir d).2 (S + 1)) := by
  have hc := Mkdir_any h.disk h.env.env hr.crashl h.own8 (hr.slen hS) d hd
  rw [← hr.mkdirCode d]
  exact dOut h hc fun G' hG => hr.mkdired hG
theorem r_mkdir (h : Pair b0 E D R P G q m0 W) (hm : Lim m0) (d : ByteArray) (hd : d.size < 4294967281) :
    Calls Tryz.prog 27 #[.pointer (some ⟨R, 0, none⟩), .string d] W (ROut b0 E D R P G W (m0.mkdir d).1 (m0.mkdir d).2) := rOut3 h (Mkdir_ref h.ref hm d (by omega))

theorem d_create (h : Pair b0 E D R P G q m W) (hr : Rel G m0 S) (hS : S ≤ 1048576) (d : ByteArray) (hd : d.size < 4294967281) :
    Calls Tryz.prog 20 #[.pointer (some ⟨D, 0, none⟩), .string d] W (DOut b0 E D R P q m W ⟨#[99, 114, 101, 97, 116, 101]⟩ d (m0.create d).1 (m0.create d).2 (S + 2)) := by
  have hc := Create_any h.disk h.env.env hr.nums hr.crashl h.own8 h.w8 (hr.slen hS) d hd
  rw [← hr.createCode d]
  exact dOut h hc fun G' hG => hr.created hG
theorem r_create (h : Pair b0 E D R P G q m0 W) (hm : Lim m0) (d : ByteArray) (hd : d.size < 4294967281) :
    Calls Tryz.prog 28 #[.pointer (some ⟨R, 0, none⟩), .string d] W (ROut b0 E D R P G W (m0.create d).1 (m0.create d).2) := rOut h (Create_ref h.ref hm d (by omega))

theorem d_append (h : Pair b0 E D R P G q m W) (hr : Rel G m0 S) (hS : S ≤ 1048576) (d : ByteArray) (hd : d.size < 4294967281) (ao : Option Addr) (len cap : Nat) (ps : Nat → ByteArray) (hP : PartsAt W ao len ps) (hpo : ∀ b off, ao = some ⟨b, off, none⟩ → ¬ G.own D b) (hll : len < 1099511627776) (hT : (cat ps len).length < 549755813888) :
    Calls Tryz.prog 22 #[.pointer (some ⟨D, 0, none⟩), .string d, .slice ao len cap] W (DOut b0 E D R P q m W ⟨#[97, 112, 112, 101, 110, 100]⟩ d (m0.append d (cat ps len)).1 (m0.append d (cat ps len)).2 (S + 1 + (cat ps len).length)) := by
  have hc := Append_any h.disk h.env.env hr.nums hr.crashl d hd ao len cap ps hP hpo hll hT (by rw [hr.cap]; have := hr.capl; omega) (hr.usedLt hS) (fun i hi => ⟨hr.bytes hS i hi, by
    have := (hr.good i (by rw [← hr.len]; exact hi)).2.2; omega, fun k r hk => by
    have h1 := (hr.good i (by rw [← hr.len]; exact hi)).2.1
    have h2 : PStep.add k ∈ (pfAt G i).steps := List.mem_reverse.1 (by rw [hk]; exact List.mem_cons_self ..)
    have h3 := unitsOf_mem h2
    simp only [PStep.units] at h3
    omega⟩)
  rw [← hr.appendCode d (cat ps len)]
  refine dOut h hc fun G' hG => hr.appended (fun x hx => ?_) hG
  have : ∀ n, ∀ x ∈ cat ps n, x < 256 := fun n => by
    induction n with
    | zero => intro x hx; cases hx
    | succ n ih =>
      intro x hx
      rw [cat] at hx
      rcases List.mem_append.1 hx with h1 | h1
      · exact ih x h1
      · exact nums_lt _ x h1
  exact this _ x hx
theorem r_append (h : Pair b0 E D R P G q m0 W) (hm : Lim m0) (hn : NumsIn m0) (d : ByteArray) (hd : d.size < 4294967281) (ao : Option Addr) (len cap : Nat) (ps : Nat → ByteArray) (hP : PartsAt W ao len ps) (hll : len < 1099511627776) (hT : (cat ps len).length < 549755813888) :
    Calls Tryz.prog 30 #[.pointer (some ⟨R, 0, none⟩), .string d, .slice ao len cap] W (ROut b0 E D R P G W (m0.append d (cat ps len)).1 (m0.append d (cat ps len)).2) := rOut h (Append_ref h.ref hm hn d (by omega) ao len cap ps hP hll hT)

theorem d_cut (h : Pair b0 E D R P G q m W) (hr : Rel G m0 S) (hS : S ≤ 1048576) (d : ByteArray) (hd : d.size < 4294967281) (n : Int) (hn : inI n) :
    Calls Tryz.prog 31 #[.pointer (some ⟨D, 0, none⟩), .string d, .int .i64 n] W (DOut b0 E D R P q m W ⟨#[99, 117, 116]⟩ d (m0.cut d n).1 (m0.cut d n).2 (S + 1)) := by
  have hc := Cut_any h.disk h.env.env hr.nums hr.crashl d hd n (by unfold inI at hn; omega) (hr.usedLt hS) (fun i hi => ⟨hr.bytes hS i hi, by have := (hr.good i (by rw [← hr.len]; exact hi)).2.2; omega⟩) (fun i hi => hr.fileLe' hi)
  rw [← hr.cutCode d n]
  exact dOut h hc fun G' hG => hr.cutDone hG
theorem r_cut (h : Pair b0 E D R P G q m0 W) (hm : Lim m0) (hn : NumsIn m0) (d : ByteArray) (hd : d.size < 4294967281) (n : Int) (hni : inI n) :
    Calls Tryz.prog 32 #[.pointer (some ⟨R, 0, none⟩), .string d, .int .i64 n] W (ROut b0 E D R P G W (m0.cut d n).1 (m0.cut d n).2) := rOut h (Cut_ref h.ref hm hn d (by omega) n hni)

theorem d_sync (h : Pair b0 E D R P G q m W) (hr : Rel G m0 S) (d : ByteArray) (hd : d.size < 4294967281) :
    Calls Tryz.prog 23 #[.pointer (some ⟨D, 0, none⟩), .string d] W (DOut b0 E D R P q m W ⟨#[115, 121, 110, 99]⟩ d (m0.sync d).1 (m0.sync d).2 S) := by
  have hc := Sync_any h.disk h.env.env hr.nums hr.crashl d hd
  rw [← hr.syncCode d]
  exact dOut h hc fun G' hG => hr.synced hG
theorem r_sync (h : Pair b0 E D R P G q m0 W) (hm : Lim m0) (hn : NumsIn m0) (d : ByteArray) (hd : d.size < 4294967281) :
    Calls Tryz.prog 33 #[.pointer (some ⟨R, 0, none⟩), .string d] W (ROut b0 E D R P G W (m0.sync d).1 (m0.sync d).2) := rOut h (Sync_ref h.ref hm hn d (by omega))

theorem d_names (h : Pair b0 E D R P G q m W) (hr : Rel G m0 S) (hS : S ≤ 1048576) :
    Calls Tryz.prog 21 #[.pointer (some ⟨D, 0, none⟩)] W (DOut b0 E D R P q m W ⟨#[110, 97, 109, 101, 115]⟩ ⟨#[]⟩ m0.syncNames.1 m0.syncNames.2 S) := by
  have hc := SyncNames_any h.disk h.env.env hr.crashl h.own8 (hr.slen hS) hr.hfit
  rw [← hr.syncNamesCode]
  exact dOut h hc fun G' hG => hr.syncedNames hG
theorem r_names (h : Pair b0 E D R P G q m0 W) (hm : Lim m0) :
    Calls Tryz.prog 34 #[.pointer (some ⟨R, 0, none⟩)] W (ROut b0 E D R P G W m0.syncNames.1 m0.syncNames.2) := rOut3 h (SyncNames_ref h.ref hm)

theorem rename_valid {a b : ByteArray} (ho : m.off = false) (hc : (m.rename a b).1 = 0 ∨ (m.rename a b).1 = 1) : Valid m.things ⟨3, a, b, 0⟩ := by
  by_cases ha : m.await = 1
  · have h2 := rename_cases { m with await := 0 } a b
    have e : ({ m with await := 0 } : M).rename a b = (if (m.rename a b).1 = 1 then (0, (({ m with await := 0 } : M).rename a b).2) else ((m.rename a b).1, (({ m with await := 0 } : M).rename a b).2)) := by
      unfold M.rename M.names
      rw [ho, ha]
      simp only [Bool.false_eq_true, if_false]
      split
      · rfl
      · split
        · rfl
        · split
          · rfl
          · split
            · rfl
            · rfl
    rcases h2 with hf | ⟨_, hv, _⟩
    · have h0 : (({ m with await := 0 } : M).rename a b).1 = 0 := by
        rcases hc with hc | hc
        · rw [e, if_neg (by omega)]; exact hc
        · rw [e, if_pos hc]
      exact absurd h0 hf.1
    · exact hv
  · rcases rename_cases m a b with hf | ⟨_, hv, _⟩
    · rcases hc with hc | hc
      · exact absurd hc hf.1
      · exact absurd (hf.2.2 hc ho) ha
    · exact hv

theorem d_rename (h : Pair b0 E D R P G q m W) (hr : Rel G m0 S) (hS : S ≤ 1048576) (a b : ByteArray) (ha : a.size < 4294967281) (hb : b.size < 4294967281) :
    Calls Tryz.prog 35 #[.pointer (some ⟨D, 0, none⟩), .string a, .string b] W (DOut b0 E D R P q m W ⟨#[114, 101, 110, 97, 109, 101]⟩ a (m0.rename a b).1 (m0.rename a b).2 (S + 1)) := by
  have hfit : Disk.renameCode G a b = 0 ∨ (G.off = false ∧ Disk.renameCode G a b = 1) → MoveFits G.gc a b := fun hh => by
    rw [hr.renameCode a b] at hh
    have ho : m0.off = false := by
      cases ho : m0.off
      · rfl
      · rcases hh with hh | ⟨hh, _⟩
        · unfold M.rename at hh; rw [ho] at hh; cases hh
        · rw [hr.off, ho] at hh; cases hh
    have hv := rename_valid ho (by rcases hh with hh | ⟨_, hh⟩; exact .inl hh; exact .inr hh)
    exact (fits_of hr.cur hr.wfc hv hb).2.2.2 rfl
  have hc := Rename_any h.disk h.env.env hr.nums hr.crashl h.own8 (hr.slen hS) a b ha hb (hr.bytes hS) (hr.lensLt hS b) (hr.usedLt hS) (fun _ => hr.sizeLe' b) hfit
  rw [← hr.renameCode a b]
  exact dOut h hc fun G' hG => hr.renamed hb hG
theorem r_rename (h : Pair b0 E D R P G q m0 W) (hm : Lim m0) (a b : ByteArray) (ha : a.size < 4294967281) (hb : b.size < 4294967281) :
    Calls Tryz.prog 36 #[.pointer (some ⟨R, 0, none⟩), .string a, .string b] W (ROut b0 E D R P G W (m0.rename a b).1 (m0.rename a b).2) := rOut3 h (Rename_ref h.ref hm a b (by omega) (by omega))

theorem d_remove (h : Pair b0 E D R P G q m W) (hr : Rel G m0 S) (hS : S ≤ 1048576) (a : ByteArray) (ha : a.size < 4294967281) :
    Calls Tryz.prog 37 #[.pointer (some ⟨D, 0, none⟩), .string a] W (DOut b0 E D R P q m W ⟨#[114, 101, 109, 111, 118, 101]⟩ a (m0.remove a).1 (m0.remove a).2 (S + 1)) := by
  have hc := Remove_any h.disk h.env.env hr.nums hr.crashl h.own8 (hr.slen hS) a ha (hr.bytes hS) (hr.lensLt hS a) (hr.usedLt hS) (fun _ _ => hr.sizeLe' a)
  rw [← hr.removeCode a]
  exact dOut h hc fun G' hG => hr.removed hG
theorem r_remove (h : Pair b0 E D R P G q m0 W) (hm : Lim m0) (a : ByteArray) (ha : a.size < 4294967281) :
    Calls Tryz.prog 38 #[.pointer (some ⟨R, 0, none⟩), .string a] W (ROut b0 E D R P G W (m0.remove a).1 (m0.remove a).2) := rOut3 h (Remove_ref h.ref hm a (by omega))

theorem d_flip (h : Pair b0 E D R P G q m W) (hr : Rel G m0 S) (hS : S ≤ 1048576) (d : ByteArray) (hd : d.size < 4294967281) (a : Int) (k : Nat) (hk : k < 256) :
    Calls Tryz.prog 79 #[.pointer (some ⟨D, 0, none⟩), .string d, .int .i64 a, .int .u8 (k : Int)] W (DOut b0 E D R P q m W ⟨#[102, 108, 105, 112]⟩ d (m0.flip d a k).1 (m0.flip d a k).2 S) := by
  have hc := Flip_any h.disk h.env.env hr.nums d hd a k hk (hr.bytes hS) (fun i hi => (hr.good i (by rw [← hr.len]; exact hi)).1.ok.2)
  rw [← hr.flipCode d a k]
  exact dOut h hc fun G' hG => hr.flipped hk hG
theorem r_flip (h : Pair b0 E D R P G q m0 W) (hm : Lim m0) (hn : NumsIn m0) (h8 : ∀ i, i < m0.files.length → ∀ x ∈ (m0.fileAt i).now, x < 256) (d : ByteArray) (hd : d.size < 4294967281) (a : Int) (ha : inI a) (k : Nat) (hk : k < 256) :
    Calls Tryz.prog 80 #[.pointer (some ⟨R, 0, none⟩), .string d, .int .i64 a, .int .u8 (k : Int)] W (ROut b0 E D R P G W (m0.flip d a k).1 (m0.flip d a k).2) := rOut h (Flip_ref h.ref hm hn d (by omega) a ha k hk h8)

end
end Go.Proofs.YtmmlefbokplnnaaGreatDoor.Disk

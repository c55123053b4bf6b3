/-
  The texts RRestart, joined. Own text.
-/
import Derived.Test.YtmmlefbokplnnaaGreatDoorJ29
import Derived.Test.YtmmlefbokplnnaaGreatDoorJ30
import Derived.Deep.RegionHeld3
set_option linter.unusedVariables false
set_option linter.unusedSimpArgs false
namespace Go.Proofs.YtmmlefbokplnnaaGreatDoor.Disk
open Go.RowKit Go Go.Proofs.YtmmlefbokplnnaaGreatDoor.Base Go.Proofs.YtmmlefbokplnnaaGreatDoor.Map

def fileE (x : Thing) : Option Ent := if x.dir then none else some ⟨x.path, false, x.num⟩
def sortF (l : List Thing) : List Ent := insL (l.filterMap fileE)
/-- the files' numbers, in the order of their paths -/
def numsF (l : List Thing) : List Nat := (sortF l).map (·.size)

def M.restart (m : M) (names : Int) (data : List Int) (zeros : Bool) : M :=
  { things := appliedAll m.safe (m.steps.take (share names m.steps.length)), safe := appliedAll m.safe (m.steps.take (share names m.steps.length)), steps := [],
    files := keepAll m.files (numsF (appliedAll m.safe (m.steps.take (share names m.steps.length)))) data zeros (numsF (appliedAll m.safe (m.steps.take (share names m.steps.length)))).length, cap := m.cap, off := false, await := 0 }

theorem keepAll_length (fs : List FB) (nums : List Nat) (data : List Int) (z : Bool) : ∀ k, (keepAll fs nums data z k).length = fs.length
  | 0 => rfl
  | k + 1 => by unfold keepAll; simp only [List.length_set]; exact keepAll_length fs nums data z k

theorem keepAll_other (fs : List FB) (nums : List Nat) (data : List Int) (z : Bool) (i : Nat) : ∀ k, (∀ j, j < k → nums.getD j 0 ≠ i) → (keepAll fs nums data z k).getD i ⟨[], [], []⟩ = fs.getD i ⟨[], [], []⟩
  | 0, _ => rfl
  | k + 1, h => by
    unfold keepAll
    simp only
    rw [List.getD_eq_getElem?_getD, List.getElem?_set_ne (h k (by omega)), ← List.getD_eq_getElem?_getD]
    exact keepAll_other fs nums data z i k fun j hj => h j (by omega)

theorem numsF_mem {l : List Thing} {i : Nat} (h : i ∈ numsF l) : ∃ x ∈ l, x.dir = false ∧ x.num = i := by
  unfold numsF sortF at h
  obtain ⟨e, he, hes⟩ := List.mem_map.1 h
  have he2 := (insL_perm _).mem_iff.1 he
  obtain ⟨x, hx, hxe⟩ := List.mem_filterMap.1 he2
  unfold fileE at hxe
  cases hd : x.dir
  · rw [hd] at hxe
    simp only [Bool.false_eq_true, if_false] at hxe
    injection hxe with hxe
    exact ⟨x, hx, hd, by rw [← hes, ← hxe]⟩
  · rw [hd] at hxe; simp at hxe

theorem getD_mem {l : List Nat} {j : Nat} (hj : j < l.length) : l.getD j 0 ∈ l := by
  rw [List.getD_eq_getElem?_getD, List.getElem?_eq_getElem hj]
  exact List.getElem_mem hj
theorem getD_ne {l : List Nat} (hn : l.Nodup) {i j : Nat} (hi : i < l.length) (hj : j < l.length) (h : i ≠ j) : l.getD i 0 ≠ l.getD j 0 := by
  rw [List.getD_eq_getElem?_getD, List.getElem?_eq_getElem hi, List.getD_eq_getElem?_getD, List.getElem?_eq_getElem hj]
  show l[i] ≠ l[j]
  rcases Nat.lt_or_gt_of_ne h with h1 | h1
  · exact List.pairwise_iff_getElem.1 hn i j hi hj h1
  · exact fun e => List.pairwise_iff_getElem.1 hn j i hj hi h1 e.symm

theorem appliedAll_snoc (l : List Thing) (ss : List NStep) (s : NStep) : appliedAll l (ss ++ [s]) = applied (appliedAll l ss) s := by
  unfold appliedAll; rw [List.foldl_append]; rfl

/-- numbers that came in -/
def IntsAt (w : World) (ao : Option Addr) (data : List Int) : Prop := ∀ j (hj : j < data.length), ∃ b off, ao = some ⟨b, off, none⟩ ∧ b < w.heap.size ∧ w.cell? ⟨b, off + j, none⟩ = some (.int .i64 (data[j]'hj))

/-- the bounds that Restart asks -/
structure LimR (m : M) : Prop where
  steps : ∀ s ∈ m.steps, (s.kind = 1 ∨ s.kind = 2 ∨ s.kind = 3 ∨ s.kind = 4) ∧ s.a.size < 4611686018427387904 ∧ s.b.size < 4611686018427387904
  pre : ∀ k, (appliedAll m.safe (m.steps.take k)).length < 1000000000000 ∧ ∀ x ∈ appliedAll m.safe (m.steps.take k), x.path.size < 4611686018427387904 ∧ (x.dir = false → x.num < m.files.length)
  nodup : ∀ k, (numsF (appliedAll m.safe (m.steps.take k))).Nodup
  files : ∀ i, i < m.files.length → (m.fileAt i).steps.length < 1099511627776 ∧ changeUnits (m.fileAt i).steps < 1099511627776 ∧ (m.fileAt i).safe.length < 1099511627776 ∧ CutsOk (m.fileAt i).steps (m.fileAt i).safe ∧ ∀ c ∈ (m.fileAt i).steps, c.cut = true → c.text = []

theorem frozen_set (w : World) (k o : Nat) (v : Value) (b : Addr) : (w.setCell ⟨k, o, none⟩ v).frozen? b = w.frozen? b := World.frozen?_setCells k [v] o w b
theorem cell_set_ne (w : World) (k a b : Nat) (v : Value) (h : a ≠ b) : (w.setCell ⟨k, a, none⟩ v).cell? ⟨k, b, none⟩ = w.cell? ⟨k, b, none⟩ := by
  rw [World.cell?_setCell_other]
  intro e
  injection e with _ e
  exact h e

theorem heldC {w0 w1 w2 : World} {g : Nat} {a1 a2 a3 a4 a5 : Addr} {v1 v2 v3 v4 v5 : Value} (h1 : w1.cell? a1 = some v1) (h2 : w1.cell? a2 = some v2) (h3 : w1.cell? a3 = some v3) (h4 : w1.cell? a4 = some v4) (h5 : w1.cell? a5 = some v5) (hg : g < w1.heap.size) (hf : ∀ i, w1.frozen? ⟨g, i, none⟩ = false) (hb : Below w0.heap.size w0 w1) (hn : Below w1.heap.size w1 w2) :
    w2.cell? a1 = some v1 ∧ w2.cell? a2 = some v2 ∧ w2.cell? a3 = some v3 ∧ w2.cell? a4 = some v4 ∧ w2.cell? a5 = some v5 ∧ g < w2.heap.size ∧ (∀ i, w2.frozen? ⟨g, i, none⟩ = false) ∧ Below w0.heap.size w0 w2 := by
  have hc : ∀ {a : Addr} {v : Value}, w1.cell? a = some v → w2.cell? a = some v := fun {a v} h => by
    rw [World.cell?_of_block (w := w1) (hn.block a.block (World.block_lt_of_cell? w1 a h))]
    exact h
  refine ⟨hc h1, hc h2, hc h3, hc h4, hc h5, Nat.lt_of_lt_of_le hg hn.size, fun i => ?_, hb.trans (hn.mono hb.size)⟩
  rw [World.frozen?_of_block (w := w1) (hn.block g hg)]
  exact hf i

theorem heldS {w1 w2 : World} {a1 a2 : Addr} {v1 v2 : Value} (h1 : w1.cell? a1 = some v1) (h2 : w1.cell? a2 = some v2) (hn : Below w1.heap.size w1 w2) : w2.cell? a1 = some v1 ∧ w2.cell? a2 = some v2 := by
  have hc : ∀ {a : Addr} {v : Value}, w1.cell? a = some v → w2.cell? a = some v := fun {a v} h => by
    rw [World.cell?_of_block (w := w1) (hn.block a.block (World.block_lt_of_cell? w1 a h))]
    exact h
  exact ⟨hc h1, hc h2⟩

theorem wishAt_in {data : List Int} (h : ∀ x ∈ data, inI x) (k : Nat) : inI (wishAt data k) := by
  unfold wishAt
  split
  · unfold inI; omega
  · rename_i hd
    have hk : k % data.length < data.length := Nat.mod_lt _ (by omega)
    rw [List.getD_eq_getElem?_getD, List.getElem?_eq_getElem hk]
    exact h _ (List.getElem_mem hk)

section
variable {w : World} {R : Nat} {q : RefG} {m : M}

set_option maxRecDepth 100000 in
set_option maxHeartbeats 8000000 in
theorem Restart_ref (h : RefAt w R q m) (hm : Lim m) (hr : LimR m) (names : Int) (hnames : inI names) (data : List Int) (da : Option Addr) (dcap : Nat) (hdata : IntsAt w da data) (hdo : 0 < data.length → ∀ b off, da = some ⟨b, off, none⟩ → ¬ q.own R b) (hdl : data.length < 1099511627776) (hdi : ∀ x ∈ data, inI x) (zeros : Bool) :
    Calls Tryz.prog 14 #[.pointer (some ⟨R, 0, none⟩), .int .i64 names, .slice da data.length dcap, .bool zeros] w fun r w' => r = .returned (.tuple #[]) ∧ ∃ q', RefDone w R q w' q' (m.restart names data zeros) := by
  have hshl := share_le names m.steps.length
  have hsh := fun W => share_ref names m.steps.length hnames (by have := hm.steps; omega) W
  have c1 : w.cell? ⟨R, 1, none⟩ = some q.sv := h.cell 1
  obtain ⟨sa, scap, hnv, _, hsr⟩ := row_open (f := nstepC) (k := 4) (fun _ => rfl) h.steps rfl
  have c2 : w.cell? ⟨R, 2, none⟩ = some (.slice sa m.steps.length scap) := by rw [← hnv]; exact h.cell 2
  have hslen := hm.steps
  obtain ⟨SL, hSL⟩ : ∃ SL, m.steps.length = SL := ⟨_, rfl⟩
  obtain ⟨MM, hMM⟩ : ∃ MM, share names m.steps.length = MM := ⟨_, rfl⟩
  rw [hMM] at hshl hsh
  have hres : m.restart names data zeros = { things := appliedAll m.safe (m.steps.take MM), safe := appliedAll m.safe (m.steps.take MM), steps := [], files := keepAll m.files (numsF (appliedAll m.safe (m.steps.take MM))) data zeros (numsF (appliedAll m.safe (m.steps.take MM))).length, cap := m.cap, off := false, await := 0 } := by
    unfold M.restart; rw [hMM]
  rw [hres]
  rw [hSL] at c2 hshl hsh hslen
  have HH := Lib.hid h
  have HM := Lib.hid hm
  have HLR := Lib.hid hr
  have HSR := Lib.hid hsr
  have HSL := Lib.hid hSL
  have HSH := Lib.hid hsh
  have HD := Lib.hid hdata
  have HDO := Lib.hid hdo
  have HDI := Lib.hid hdi
  have h0 : Hid (w.ownsRow 0 83 3 q.sv (appliedAll m.safe (m.steps.take 0)).length ((appliedAll m.safe (m.steps.take 0)).flatMap thingC)) := Lib.hid (by rw [List.take_zero]; exact h.safe)
  clear h hm hr hsr hnv hSL hMM hsh hdata hdo hdi hres
  go_enter Tryz.func14, Tryz.ntmps14
  go_wp2_with (go_at_call 51; ((with_reducible refine (HSH.out _).mono ?_); rintro r w2 ⟨rfl, rfl⟩))
  go_loopg [8, 10] MM (fun r l i wr => ∃ (k : Nat), Hid (k + r = MM) ∧ k ≤ MM ∧ i = .int .i64 (k : Int) ∧ Hid (wr.ownsRow 0 83 3 l (appliedAll m.safe (m.steps.take k)).length ((appliedAll m.safe (m.steps.take k)).flatMap thingC) ∧ Below w.heap.size w wr ∧ ∀ b, l.ownBlock = some b → q.sv.ownBlock = some b ∨ w.heap.size ≤ b))
  case atStart => exact ⟨0, Nat.zero_add _, Nat.zero_le _, rfl, ⟨h0.out, Below.refl _ _, fun b hb => .inl hb⟩⟩
  case round =>
    obtain ⟨k, hE, hk, rfl, HL⟩ := hrel
    obtain ⟨hrow, hbel, hown⟩ := HL.out
    obtain ⟨la, lcap, hlv, _, hlr⟩ := row_open (f := thingC) (k := 3) (fun _ => rfl) hrow rfl
    by_cases hlt : k < MM
    · have hks : k < m.steps.length := by rw [HSL.out]; omega
      obtain ⟨g, rfl, hg, hc⟩ := HSR.out k hks
      have d2 : wr.cell? ⟨R, 2, none⟩ = some (.slice (some ⟨g, 0, none⟩) SL scap) := (hbel.cell (by show R < _; exact HH.out.lt)).trans c2
      have x0 : wr.cell? ⟨g, k * 4, none⟩ = some (.int .i64 ((m.steps[k]'hks).kind : Int)) := (hbel.cell hg).trans (hc 0 (by omega))
      have x1 : wr.cell? ⟨g, k * 4 + 1, none⟩ = some (.string (m.steps[k]'hks).a) := (hbel.cell hg).trans (hc 1 (by omega))
      have x2 : wr.cell? ⟨g, k * 4 + 2, none⟩ = some (.string (m.steps[k]'hks).b) := (hbel.cell hg).trans (hc 2 (by omega))
      have x3 : wr.cell? ⟨g, k * 4 + 3, none⟩ = some (.int .i64 ((m.steps[k]'hks).num : Int)) := (hbel.cell hg).trans (hc 3 (by omega))
      obtain ⟨p1, p2, p3⟩ := HLR.out.steps _ (List.getElem_mem hks)
      obtain ⟨p4, p5⟩ := HLR.out.pre k
      have hap := apply_ref hrow p4 (m.steps[k]'hks) p1 (fun x hx => (p5 x hx).1) p2 p3
      have hnext : applied (appliedAll m.safe (m.steps.take k)) (m.steps[k]'hks) = appliedAll m.safe (m.steps.take (k + 1)) := by
        rw [List.take_succ_eq_append_getElem hks, appliedAll_snoc]
      rw [hnext] at hap
      generalize m.steps[k]'hks = st at x0 x1 x2 x3 hap
      have HAP := Lib.hid hap
      have HBL := Lib.hid hbel
      clear hc hap hnext p1 p2 p3 p4 p5 hrow hbel hown hlr HL hlv
      go_wp2_with (go_at_call 52; ((with_reducible refine HAP.out.mono ?_); rintro r w2 ⟨v', rfl, ho⟩))
      go_roundg (MM - (k + 1))
      case measure => have := hE.out; omega
      case rel => exact ⟨k + 1, by show _ = _; have := hE.out; omega, by omega, by go_num, ⟨ho.row, HBL.out.trans (ho.below.mono HBL.out.size), fun b hb => .inr (Nat.le_trans HBL.out.size (ho.fresh b hb))⟩⟩
    · obtain rfl : MM = k := by omega
      obtain ⟨lst, hlst⟩ : ∃ lst, appliedAll m.safe (m.steps.take MM) = lst := ⟨_, rfl⟩
      have hpre := HLR.out.pre MM
      have hnd := HLR.out.nodup MM
      rw [hlst] at hrow hlr hpre hnd hlv
      obtain ⟨N, hN⟩ : ∃ N, lst.length = N := ⟨_, rfl⟩
      rw [hN] at hrow hlv hpre
      subst hlv
      have HLST := Lib.hid hlst
      have HROW := Lib.hid hrow
      have HBEL := Lib.hid hbel
      have HOWN := Lib.hid hown
      have HLR2 := Lib.hid hlr
      have HPRE := Lib.hid hpre.2
      have hNl := hpre.1
      have HND := Lib.hid hnd
      have HN := Lib.hid hN
      clear hlst hrow hbel hown hlr hpre hnd hN hlt hE HL
      go_wp2_with fail
      obtain ⟨wo, hwo⟩ : ∃ wo : World, wo = wr := ⟨_, rfl⟩
      subst hwo
      go_loopg [11, 12] N (fun r u i w2 => ∃ (j : Nat), Hid (j + r = N) ∧ j ≤ N ∧ i = .int .i64 (j : Int) ∧ Hid (OutE wo (insL ((lst.take j).filterMap fileE)) w2 u))
      case atStart => exact ⟨0, Nat.zero_add _, Nat.zero_le _, rfl, OutE.nil (Below.refl _ _)⟩
      case round =>
        obtain ⟨j, hE, hj, rfl, HU⟩ := hrel
        obtain ⟨ua, uc, rfl⟩ := HU.out.shape
        by_cases hlt : j < N
        · have hjl : j < lst.length := by rw [HN.out]; exact hlt
          obtain ⟨g, rfl, hg, hc⟩ := HLR2.out j hjl
          have hb2 := HU.out.below
          have x0 : wr.cell? ⟨g, j * 3, none⟩ = some (.string (lst[j]'hjl).path) := (hb2.cell hg).trans (hc 0 (by omega))
          have x1 : wr.cell? ⟨g, j * 3 + 1, none⟩ = some (.bool (lst[j]'hjl).dir) := (hb2.cell hg).trans (hc 1 (by omega))
          have x2 : wr.cell? ⟨g, j * 3 + 2, none⟩ = some (.int .i64 ((lst[j]'hjl).num : Int)) := (hb2.cell hg).trans (hc 2 (by omega))
          have htk : (lst.take (j + 1)).filterMap fileE = (lst.take j).filterMap fileE ++ (fileE (lst[j]'hjl)).toList := by
            rw [List.take_succ_eq_append_getElem hjl, List.filterMap_append]
            congr 1
          have hlu : (insL ((lst.take j).filterMap fileE)).length < 1000000000000 := by
            rw [insL_length]
            refine Nat.lt_of_le_of_lt (List.length_filterMap_le _ _) ?_
            rw [List.length_take]; omega
          have hins := fun (e : Ent) (wx : World) (hb : Below wr.heap.size wr wx) => insert_ref (HU.out.kept hb) hlu e
          have hstep : insL ((lst.take (j + 1)).filterMap fileE) = match fileE (lst[j]'hjl) with | none => insL ((lst.take j).filterMap fileE) | some e => insE (insL ((lst.take j).filterMap fileE)) e := by
            rw [htk, insL_step]
            cases fileE (lst[j]'hjl) <;> rfl
          obtain ⟨x, hx⟩ : ∃ x, lst[j]'hjl = x := ⟨_, rfl⟩
          rw [hx] at x0 x1 x2 hstep
          obtain ⟨xp, xd, xn⟩ := x
          simp only at x0 x1 x2
          obtain ⟨LN, hLN⟩ : ∃ LN, (insL ((lst.take j).filterMap fileE)).length = LN := ⟨_, rfl⟩
          rw [hLN] at hins HU ⊢
          clear hc htk hx hlu hLN
          cases xd
          · have hst2 : insL ((lst.take (j + 1)).filterMap fileE) = insE (insL ((lst.take j).filterMap fileE)) ⟨xp, false, xn⟩ := hstep
            have HST := Lib.hid hst2
            have hcall : Calls Tryz.prog 53 #[.slice ua LN uc, .agg #[.string xp, .bool false, .int .i64 (xn : Int)]] wr.drew (fun r w' => ∃ v', r = .returned v' ∧ OutE wo (insE (insL ((lst.take j).filterMap fileE)) ⟨xp, false, xn⟩) w' v') := hins ⟨xp, false, xn⟩ wr.drew ((Below.refl _ _).drewN 1)
            have HCALL := Lib.hid hcall
            have hjI : (j : Int) < (N : Int) := by omega
            clear hst2 hstep hcall hins
            go_wp2_with fail
            refine wp_region_still_tail 12 (by kernel_rfl) (by kernel_rfl) ?_
            simp only [List.take_succ_cons, List.take_zero, List.drop_succ_cons, List.drop_zero]
            change wpStill _ _ wr.drew _ _ _
            repeat still_step
            refine wpStill_nil ?_
            change wpList _ _ _ _ _ wr.drew
            go_wp2_with (go_at_call 53; ((with_reducible refine HCALL.out.mono ?_); rintro r w2 ⟨v', rfl, ho⟩))
            go_roundg (N - (j + 1))
            case measure => have := hE.out; omega
            case rel => exact ⟨j + 1, by show _ = _; have := hE.out; omega, by omega, by go_num, by show OutE _ _ _ _; rw [HST.out]; exact ho⟩
          · have hst2 : insL ((lst.take (j + 1)).filterMap fileE) = insL ((lst.take j).filterMap fileE) := hstep
            have HST := Lib.hid hst2
            clear hst2 hstep hins
            go_wp2
            go_roundg (N - (j + 1))
            case measure => have := hE.out; omega
            case rel => exact ⟨j + 1, by show _ = _; have := hE.out; omega, by omega, by go_num, by show OutE _ _ _ _; rw [HST.out]; exact HU.out⟩
        · obtain rfl : N = j := by omega
          have hall : lst.take N = lst := by rw [List.take_of_length_le]; rw [HN.out]; exact Nat.le_refl _
          rw [hall] at HU ⊢
          obtain ⟨SO, hSO⟩ : ∃ SO, insL (lst.filterMap fileE) = SO := ⟨_, rfl⟩
          rw [hSO] at HU ⊢
          obtain ⟨LN, hLN⟩ : ∃ LN, SO.length = LN := ⟨_, rfl⟩
          rw [hLN] at HU ⊢
          have hnf : numsF lst = SO.map (·.size) := by unfold numsF sortF; rw [hSO]
          have hnl : (numsF lst).length = LN := by rw [hnf, List.length_map, hLN]
          have hLNl : LN ≤ N := by
            rw [← hLN, ← hSO, insL_length]
            have := List.length_filterMap_le fileE lst
            rw [HN.out] at this
            exact this
          have hin : ∀ j (hj : j < LN), (numsF lst).getD j 0 < m.files.length ∧ ∀ i, i < j → (numsF lst).getD i 0 ≠ (numsF lst).getD j 0 := fun j hj => by
            refine ⟨?_, fun i hi => getD_ne HND.out (by rw [hnl]; omega) (by rw [hnl]; exact hj) (by omega)⟩
            obtain ⟨x, hx, hd, e⟩ := numsF_mem (getD_mem (l := numsF lst) (j := j) (by rw [hnl]; exact hj))
            rw [← e]
            exact (HPRE.out x hx).2 hd
          have HIN := Lib.hid hin
          have HNF := Lib.hid hnf
          have HNL := Lib.hid hnl
          have HSO := Lib.hid hSO
          have HLN := Lib.hid hLN
          clear hall hSO hLN hnf hnl hin hlt hE
          go_wp2_with fail
          obtain ⟨wb, hwb⟩ : ∃ wb : World, wb = wr := ⟨_, rfl⟩
          subst hwb
          have hwb : Below w.heap.size w wb := HBEL.out.trans (HU.out.below.mono HBEL.out.size)
          have HWB := Lib.hid hwb
          have hrb := HH.out.below hwb
          have HRB := Lib.hid hrb
          clear hwb hrb
          go_loopg [13] LN (fun r i w3 => ∃ (k : Nat) (csk : List Value), Hid (k + r = LN) ∧ k ≤ LN ∧ i = .int .i64 (k : Int) ∧ Hid (RefAt w3 R { q with cs := csk } { m with files := keepAll m.files (numsF lst) data zeros k }) ∧ Hid (Turn (fun b => q.fv.ownBlock = some b) wb w3) ∧ Hid (∀ v ∈ csk, v = .slice none 0 0 ∨ v ∈ q.cs))
          case atStart => exact ⟨0, q.cs, Nat.zero_add _, Nat.zero_le _, rfl, HRB.out, Turn.refl _ _, fun v hv => .inr hv⟩
          case round =>
            obtain ⟨k, csk, hE, hk, rfl, HRK, HTK, HCS⟩ := hrel
            by_cases hlt : k < LN
            · obtain ⟨hjf, hjn⟩ := HIN.out k hlt
              obtain ⟨j, hjj⟩ : ∃ j, (numsF lst).getD k 0 = j := ⟨_, rfl⟩
              rw [hjj] at hjf hjn
              have hjk : j < (keepAll m.files (numsF lst) data zeros k).length := by rw [keepAll_length]; exact hjf
              obtain ⟨g, fcap, hfv, hfcap, hg, f0, f1, f2⟩ := HRK.out.fileCells hjk
              have hsame : M.fileAt { m with files := keepAll m.files (numsF lst) data zeros k } j = m.fileAt j := by
                unfold M.fileAt
                exact keepAll_other _ _ _ _ _ k hjn
              rw [hsame] at f0 f1
              have hjc : j < csk.length := by have := HRK.out.len; simp only at this; rw [this]; exact hjk
              have hch := HRK.out.changes j hjk hjc
              have hfe : (keepAll m.files (numsF lst) data zeros k)[j]'hjk = m.fileAt j := by
                have := M.fileAt_eq (m := { m with files := keepAll m.files (numsF lst) data zeros k }) hjk
                rw [← hsame, this]
              simp only [hfe] at hch
              obtain ⟨p1, p2, p3, p4, p5⟩ := HLR.out.files j hjf
              obtain ⟨WI, hWI⟩ : ∃ WI, wishAt data k = WI := ⟨_, rfl⟩
              have hwin : inI WI := by rw [← hWI]; exact wishAt_in HDI.out k
              have hkeep := fun (wx : World) (hb : Below wr.heap.size wr wx) => keep_ref (w := wx) (f := m.fileAt j) (row_turn (S := fun _ => False) hch (Turn.of_below hb) (fun _ _ => id)) p1 p2 p3 p4 p5 WI hwin zeros
              have hfro : ∀ i, wr.frozen? ⟨g, i, none⟩ = false := fun i => by
                have hrw := HRK.out.files
                simp only at hfv hrw
                rw [hfv] at hrw
                exact World.ownsRow.frozenAt hrw i
              have hd3 : wr.cell? ⟨R, 3, none⟩ = some q.fv := HRK.out.cell 3
              have hlen3 : (keepAll m.files (numsF lst) data zeros k).length = m.files.length := keepAll_length _ _ _ _ _
              simp only at hfv
              rw [hlen3] at hfv hfcap
              rw [hfv] at hd3
              -- the sorted entry
              have hsrow := HU.out.row
              obtain ⟨ua2, uc2, hue, _, hsr2⟩ := row_open (f := entC) (k := 3) (fun _ => rfl) hsrow rfl
              injection hue with hue1 hue2 hue3
              have hkS : k < SO.length := by rw [HLN.out]; exact hlt
              obtain ⟨gs, hgs, hgsl, hgc⟩ := hsr2 k hkS
              rw [← hue1] at hgs
              have hsz : (SO[k]'hkS).size = j := by
                have hk2 : k < (numsF lst).length := by rw [HNL.out]; exact hlt
                have e1 : (numsF lst).getD k 0 = (SO.map (·.size)).getD k 0 := by rw [HNF.out]
                rw [← hjj, e1, List.getD_eq_getElem?_getD, List.getElem?_map, List.getElem?_eq_getElem hkS]; rfl
              have hsc : wb.cell? ⟨gs, k * 3 + 2, none⟩ = some (.int .i64 (j : Int)) := by rw [hgc 2 (by omega)]; show some (Value.int .i64 ((SO[k]'hkS).size : Int)) = _; rw [hsz]
              have hgsne : ¬ q.fv.ownBlock = some gs := fun e => by
                have k1 := row_kind HRB.out.files e
                have k2 := row_kind hsrow (k := gs) (by rw [hgs]; rfl)
                have := k1.one k2; revert this; decide
              have s2 : wr.cell? ⟨gs, k * 3 + 2, none⟩ = some (.int .i64 (j : Int)) := HTK.out.cell hsc hgsne
              obtain ⟨tn, htn⟩ : ∃ tn, strN (m.fileAt j).now = tn := ⟨_, rfl⟩
              obtain ⟨ts, hts⟩ : ∃ ts, strN (m.fileAt j).safe = ts := ⟨_, rfl⟩
              obtain ⟨cv, hcv⟩ : ∃ cv, csk[j]'hjc = cv := ⟨_, rfl⟩
              obtain ⟨KN, hKN⟩ : ∃ KN, strN ((m.fileAt j).keep WI zeros).now = KN := ⟨_, rfl⟩
              rw [htn] at f0
              rw [hts] at f1
              have f2' : wr.cell? ⟨g, j * 3 + 2, none⟩ = some cv := by rw [← hcv]; exact f2
              have HK : Hid (∀ wx, Below wr.heap.size wr wx → Calls Tryz.prog 54 #[.agg #[.string tn, .string ts, cv], .int .i64 WI, .bool zeros] wx fun r w' => r = .returned (.agg #[.string KN, .string KN, .slice none 0 0]) ∧ Below wx.heap.size wx w') := Lib.hid (by
                rw [← htn, ← hts, ← hcv, ← hKN]; exact hkeep)
              have HKN := Lib.hid hKN
              have HWI := Lib.hid hWI
              have HJJ := Lib.hid hjj
              have HJN := Lib.hid hjn
              have HJF := Lib.hid hjf
              have HFV := Lib.hid hfv
              have HSM := Lib.hid hsame
              obtain ⟨FN, hFN⟩ : ∃ FN, m.files.length = FN := ⟨_, rfl⟩
              have hflF : FN < 1099511627776 := by rw [← hFN]; exact HM.out.files
              rw [hFN] at hd3 hfcap
              have hjF : j < FN := by rw [← hFN]; exact hjf
              have HFN := Lib.hid hFN
              subst hgs
              have hk2 : (k : Int) < (LN : Int) := by omega
              have hj2 : (j : Int) < (FN : Int) := by omega
              have hfr : ∀ (W : World) (o : Nat) (v : Value) (i : Nat), (W.setCell ⟨g, o, none⟩ v).frozen? ⟨g, i, none⟩ = W.frozen? ⟨g, i, none⟩ := fun W o v i => frozen_set W g o v _
              have hc1 : ∀ (W : World) (v : Value), (W.setCell ⟨g, j * 3, none⟩ v).cell? ⟨g, j * 3 + 1, none⟩ = W.cell? ⟨g, j * 3 + 1, none⟩ := fun W v => cell_set_ne W g _ _ v (by omega)
              have hc2 : ∀ (W : World) (v v' : Value), ((W.setCell ⟨g, j * 3, none⟩ v).setCell ⟨g, j * 3 + 1, none⟩ v').cell? ⟨g, j * 3 + 2, none⟩ = W.cell? ⟨g, j * 3 + 2, none⟩ := fun W v v' => by rw [cell_set_ne _ g _ _ v' (by omega), cell_set_ne W g _ _ v (by omega)]
              have hRg : R ≠ g := HH.out.kind.ne (row_kind HH.out.files (k := g) (by rw [HFV.out]; rfl)) (by decide)
              have hsg : gs ≠ g := fun e => hgsne (by rw [HFV.out, e]; rfl)
              have hfar : ∀ (W : World) (o : Nat) (v : Value), (W.setCell ⟨g, o, none⟩ v).cell? ⟨R, 3, none⟩ = W.cell? ⟨R, 3, none⟩ := fun W o v => World.cell?_setCell_far W _ _ v (fun e => hRg e.symm)
              have hfar2 : ∀ (W : World) (o : Nat) (v : Value), (W.setCell ⟨g, o, none⟩ v).cell? ⟨gs, k * 3 + 2, none⟩ = W.cell? ⟨gs, k * 3 + 2, none⟩ := fun W o v => World.cell?_setCell_far W _ _ v (fun e => hsg e.symm)
              have hfin : ∀ wx, Below wr.heap.size wr wx → ∃ csk', RefAt (((wx.setCell ⟨g, j * 3, none⟩ (.string KN)).setCell ⟨g, j * 3 + 1, none⟩ (.string KN)).setCell ⟨g, j * 3 + 2, none⟩ (.slice none 0 0)) R { q with cs := csk' } { m with files := keepAll m.files (numsF lst) data zeros (k + 1) } ∧ Turn (fun b => q.fv.ownBlock = some b) wb (((wx.setCell ⟨g, j * 3, none⟩ (.string KN)).setCell ⟨g, j * 3 + 1, none⟩ (.string KN)).setCell ⟨g, j * 3 + 2, none⟩ (.slice none 0 0)) ∧ ∀ v ∈ csk', v = .slice none 0 0 ∨ v ∈ q.cs := fun wx hwx => by
                have h1 := HRK.out.below hwx
                have h2 := h1.storeFile hjk (by rw [keepAll_length]; exact HFV.out) ((m.fileAt j).keep WI zeros).now ((m.fileAt j).keep WI zeros).now
                rw [HKN.out] at h2
                have e : M.setFile { m with files := keepAll m.files (numsF lst) data zeros k } j ⟨((m.fileAt j).keep WI zeros).now, ((m.fileAt j).keep WI zeros).now, []⟩ = { m with files := keepAll m.files (numsF lst) data zeros (k + 1) } := by
                  unfold M.setFile
                  simp only [M.mk.injEq, true_and, and_true]
                  rw [keepAll]
                  rw [HJJ.out, HWI.out]
                  have e2 : (keepAll m.files (numsF lst) data zeros k).getD j ⟨[], [], []⟩ = m.fileAt j := HSM.out
                  rw [e2]
                  rfl
                rw [e] at h2
                have og : q.fv.ownBlock = some g := by rw [HFV.out]; rfl
                have t1 : Turn (fun b => q.fv.ownBlock = some b) wb wx := HTK.out.trans (Turn.of_below (S := fun b => q.fv.ownBlock = some b) hwx) (fun _ _ hh => hh)
                refine ⟨_, h2, ((t1.set _ _ (fun _ => og)).set _ _ (fun _ => og)).set _ _ (fun _ => og), fun v hv => ?_⟩
                rcases List.mem_or_eq_of_mem_set hv with h3 | h3
                · exact HCS.out v h3
                · exact .inl h3
              have HFin := Lib.hid hfin
              have hwish : (data.length = 0 ∧ WI = 0) ∨ (∃ b off qq, data.length ≠ 0 ∧ da = some ⟨b, off, none⟩ ∧ qq < data.length ∧ (k : Int) % (data.length : Int) = (qq : Int) ∧ wr.cell? ⟨b, off + qq, none⟩ = some (.int .i64 WI)) := by
                by_cases hd0 : data.length = 0
                · exact .inl ⟨hd0, by rw [← hWI]; unfold wishAt; rw [if_pos hd0]⟩
                · have hq : k % data.length < data.length := Nat.mod_lt _ (by omega)
                  obtain ⟨b, off, e1, e2, e3⟩ := HD.out _ hq
                  refine .inr ⟨b, off, k % data.length, hd0, e1, hq, (Int.natCast_emod _ _).symm, ?_⟩
                  have e4 : data[k % data.length]'hq = WI := by rw [← hWI]; unfold wishAt; rw [if_neg hd0, List.getD_eq_getElem?_getD, List.getElem?_eq_getElem hq]; rfl
                  rw [e4] at e3
                  refine HTK.out.cell ((HWB.out.cell (by show b < _; exact e2)).trans e3) (fun e => HDO.out (by omega) b off e1 ?_)
                  exact .inr (.inr (.inl e))
              clear hjf hjn hjj hjk hfv hsame hjc hch hfe p1 p2 p3 p4 p5 hkeep hsrow hue1 hue2 hue3 hkS hgc hsz hsc hgsne hsr2 htn hts hcv hKN hFN f2 hlen3 hgsl hWI hfin
              obtain ⟨LD, hLD⟩ : ∃ LD, data.length = LD := ⟨_, rfl⟩
              rw [hLD] at hwish hdl
              rw [(by rw [hLD] : Value.slice da data.length dcap = .slice da LD dcap)]
              have HLD := Lib.hid hLD
              clear hLD
              rcases hwish with ⟨hd0, hw0⟩ | ⟨b, off, qq, hd0, hdb, hqq, hmod, hcell⟩
              · subst hw0
                subst hd0
                go_wp2_with fail
                obtain ⟨b1, b2, b3, b4, b5, b6, b7, b8⟩ := heldC (w0 := wr) (w1 := wr) (w2 := wr.drew) hd3 s2 f0 f1 f2' hg hfro (Below.refl _ _) (Below.refl _ _).drew
                have HB8 := Lib.hid b8
                clear b8
                refine wp_region_held_drew (S := fun w' => w'.cell? ⟨R, 3, none⟩ = some (.slice (some ⟨g, 0, none⟩) FN fcap) ∧ w'.cell? ⟨gs, k * 3 + 2, none⟩ = some (.int .i64 (j : Int))) (by kernel_rfl) ⟨by assumption, by assumption⟩ (fun hHeld => ?_)
                refine wpAnyH_take (i := 0) (v := ?_) rfl (by kernel_rfl) (by kernel_rfl) (by kernel_rfl) (fun _ _ _ h => h) (Or.inl ⟨by rfl, ?_⟩) (by assumption) ?_
                rotate_left
                · (intro w hSw; (try dsimp only at hSw); first | (go_simp; done) | (go_simp; with_reducible rfl))
                (try simp only [Act.put, List.setIfInBounds_toArray, List.set_cons_zero, List.set_cons_succ])
                refine wpAnyH_take (i := 1) (v := ?_) rfl (by kernel_rfl) (by kernel_rfl) (by kernel_rfl) (fun _ _ _ h => h) (Or.inl ⟨by rfl, ?_⟩) (by assumption) ?_
                rotate_left
                · (intro w hSw; (try dsimp only at hSw); first | (go_simp; done) | (go_simp; with_reducible rfl))
                (try simp only [Act.put, List.setIfInBounds_toArray, List.set_cons_zero, List.set_cons_succ])
                refine wpAnyH_take (i := 2) (v := ?_) rfl (by kernel_rfl) (by kernel_rfl) (by kernel_rfl) (fun _ _ _ h => h) (Or.inl ⟨by rfl, ?_⟩) (by assumption) ?_
                rotate_left
                · (intro w hSw; (try dsimp only at hSw); first | (go_simp; done) | (go_simp; with_reducible rfl))
                (try simp only [Act.put, List.setIfInBounds_toArray, List.set_cons_zero, List.set_cons_succ])
                refine wpAnyH_take (i := 3) (v := ?_) rfl (by kernel_rfl) (by kernel_rfl) (by kernel_rfl) (fun _ _ _ h => h) (Or.inl ⟨by rfl, ?_⟩) (by assumption) ?_
                rotate_left
                · (intro w hSw; (try dsimp only at hSw); first | (go_simp; done) | (go_simp; with_reducible rfl))
                (try simp only [Act.put, List.setIfInBounds_toArray, List.set_cons_zero, List.set_cons_succ])
                refine wpAnyH_take (i := 4) (v := ?_) rfl (by kernel_rfl) (by kernel_rfl) (by kernel_rfl) (fun _ _ _ h => h) (Or.inl ⟨by rfl, ?_⟩) (by assumption) ?_
                rotate_left
                · (intro w hSw; (try dsimp only at hSw); first | (go_simp; done) | (go_simp; with_reducible rfl))
                (try simp only [Act.put, List.setIfInBounds_toArray, List.set_cons_zero, List.set_cons_succ])
                refine wpAnyH_take (i := 5) (v := ?_) rfl (by kernel_rfl) (by kernel_rfl) (by kernel_rfl) (fun _ _ _ h => h) (Or.inl ⟨by rfl, ?_⟩) (by assumption) ?_
                rotate_left
                · (intro w hSw; (try dsimp only at hSw); first | (go_simp; done) | (go_simp; with_reducible rfl))
                (try simp only [Act.put, List.setIfInBounds_toArray, List.set_cons_zero, List.set_cons_succ])
                refine wpAnyH_take (i := 6) (v := ?_) rfl (by kernel_rfl) (by kernel_rfl) (by kernel_rfl) (fun _ _ _ h => h) (Or.inl ⟨by rfl, ?_⟩) (by assumption) ?_
                rotate_left
                · (intro w hSw; (try dsimp only at hSw); first | (go_simp; done) | (go_simp; with_reducible rfl))
                (try simp only [Act.put, List.setIfInBounds_toArray, List.set_cons_zero, List.set_cons_succ])
                refine wpAnyH_take (i := 7) (v := ?_) rfl (by kernel_rfl) (by kernel_rfl) (by kernel_rfl) (fun _ _ _ h => h) (Or.inl ⟨by rfl, ?_⟩) (by assumption) ?_
                rotate_left
                · (intro w hSw; (try dsimp only at hSw); first | (go_simp; done) | (go_simp; with_reducible rfl))
                (try simp only [Act.put, List.setIfInBounds_toArray, List.set_cons_zero, List.set_cons_succ])
                refine wpAnyH_take (i := 8) (v := ?_) rfl (by kernel_rfl) (by kernel_rfl) (by kernel_rfl) (fun _ _ _ h => h) (Or.inl ⟨by rfl, ?_⟩) (by assumption) ?_
                rotate_left
                · (intro w hSw; (try dsimp only at hSw); first | (go_simp; done) | (go_simp; with_reducible rfl))
                (try simp only [Act.put, List.setIfInBounds_toArray, List.set_cons_zero, List.set_cons_succ])
                refine wpAnyH_take (i := 9) (v := ?_) rfl (by kernel_rfl) (by kernel_rfl) (by kernel_rfl) (fun _ _ _ h => h) (Or.inl ⟨by rfl, ?_⟩) (by assumption) ?_
                rotate_left
                · (intro w hSw; (try dsimp only at hSw); first | (go_simp; done) | (go_simp; with_reducible rfl))
                (try simp only [Act.put, List.setIfInBounds_toArray, List.set_cons_zero, List.set_cons_succ])
                refine wpAnyH_take (i := 10) (v := ?_) rfl (by kernel_rfl) (by kernel_rfl) (by kernel_rfl) (fun _ _ _ h => h) (Or.inl ⟨by rfl, ?_⟩) (by assumption) ?_
                rotate_left
                · (intro w hSw; (try dsimp only at hSw); first | (go_simp; done) | (go_simp; with_reducible rfl))
                (try simp only [Act.put, List.setIfInBounds_toArray, List.set_cons_zero, List.set_cons_succ])
                refine wpAnyH_take (i := 11) (v := ?_) rfl (by kernel_rfl) (by kernel_rfl) (by kernel_rfl) (fun _ _ _ h => h) (Or.inl ⟨by rfl, ?_⟩) (by assumption) ?_
                rotate_left
                · (intro w hSw; (try dsimp only at hSw); first | (go_simp; done) | (go_simp; with_reducible rfl))
                (try simp only [Act.put, List.setIfInBounds_toArray, List.set_cons_zero, List.set_cons_succ])
                refine wpAnyH_take (i := 12) (v := ?_) rfl (by kernel_rfl) (by kernel_rfl) (by kernel_rfl) (fun _ _ _ h => h) (Or.inl ⟨by rfl, ?_⟩) (by assumption) ?_
                rotate_left
                · (intro w hSw; (try dsimp only at hSw); first | (go_simp; done) | (go_simp; with_reducible rfl))
                (try simp only [Act.put, List.setIfInBounds_toArray, List.set_cons_zero, List.set_cons_succ])
                refine wpAnyH_take (i := 13) (v := ?_) rfl (by kernel_rfl) (by kernel_rfl) (by kernel_rfl) (fun _ _ _ h => h) (Or.inl ⟨by rfl, ?_⟩) (by assumption) ?_
                rotate_left
                · (intro w hSw; (try dsimp only at hSw); first | (go_simp; done) | (go_simp; with_reducible rfl))
                (try simp only [Act.put, List.setIfInBounds_toArray, List.set_cons_zero, List.set_cons_succ])
                refine wpAnyH_take (i := 14) (v := ?_) rfl (by kernel_rfl) (by kernel_rfl) (by kernel_rfl) (fun _ _ _ h => h) (Or.inl ⟨by rfl, ?_⟩) (by assumption) ?_
                rotate_left
                · (intro w hSw; (try dsimp only at hSw); first | (go_simp; done) | (go_simp; with_reducible rfl))
                (try simp only [Act.put, List.setIfInBounds_toArray, List.set_cons_zero, List.set_cons_succ])
                refine wpAnyH_take (i := 15) (v := ?_) rfl (by kernel_rfl) (by kernel_rfl) (by kernel_rfl) (fun _ _ _ h => h) (Or.inl ⟨by rfl, ?_⟩) (by assumption) ?_
                rotate_left
                · (intro w hSw; (try dsimp only at hSw); first | (go_simp; done) | (go_simp; with_reducible rfl))
                (try simp only [Act.put, List.setIfInBounds_toArray, List.set_cons_zero, List.set_cons_succ])
                refine wpAnyH_take (i := 16) (v := ?_) rfl (by kernel_rfl) (by kernel_rfl) (by kernel_rfl) (fun _ _ _ h => h) (Or.inl ⟨by rfl, ?_⟩) (by assumption) ?_
                rotate_left
                · (intro w hSw; (try dsimp only at hSw); first | (go_simp; done) | (go_simp; with_reducible rfl))
                (try simp only [Act.put, List.setIfInBounds_toArray, List.set_cons_zero, List.set_cons_succ])
                refine wpAnyH_take (i := 17) (v := ?_) rfl (by kernel_rfl) (by kernel_rfl) (by kernel_rfl) (fun _ _ _ h => h) (Or.inl ⟨by rfl, ?_⟩) (by assumption) ?_
                rotate_left
                · (intro w hSw; (try dsimp only at hSw); first | (go_simp; done) | (go_simp; with_reducible rfl))
                (try simp only [Act.put, List.setIfInBounds_toArray, List.set_cons_zero, List.set_cons_succ])
                refine wpAnyH_take (i := 18) (v := ?_) rfl (by kernel_rfl) (by kernel_rfl) (by kernel_rfl) (fun _ _ _ h => h) (Or.inl ⟨by rfl, ?_⟩) (by assumption) ?_
                rotate_left
                · (intro w hSw; (try dsimp only at hSw); first | (go_simp; done) | (go_simp; with_reducible rfl))
                (try simp only [Act.put, List.setIfInBounds_toArray, List.set_cons_zero, List.set_cons_succ])
                refine wpAnyH_take (i := 20) (v := ?_) rfl (by kernel_rfl) (by kernel_rfl) (by kernel_rfl) (fun _ _ _ h => h) (Or.inl ⟨by rfl, ?_⟩) (by assumption) ?_
                rotate_left
                · (intro w hSw; (try dsimp only at hSw); first | (go_simp; done) | (go_simp; with_reducible rfl))
                (try simp only [Act.put, List.setIfInBounds_toArray, List.set_cons_zero, List.set_cons_succ])
                refine wpAnyH_take (i := 21) (v := ?_) rfl (by kernel_rfl) (by kernel_rfl) (by kernel_rfl) (fun _ _ _ h => h) (Or.inl ⟨by rfl, ?_⟩) (by assumption) ?_
                rotate_left
                · (intro w hSw; (try dsimp only at hSw); first | (go_simp; done) | (go_simp; with_reducible rfl))
                (try simp only [Act.put, List.setIfInBounds_toArray, List.set_cons_zero, List.set_cons_succ])
                refine wpAnyH_ready (rs := [19]) (by kernel_rfl) (by simp) ?_
                refine AllReadyH.cons rfl (fun K hK => ?_) AllReadyH.nil
                go_simp
                refine hK.out _ _ ?_ (fun hHeld => ?_)
                · ((try dsimp only); (go_split_ands; first | exact ⟨by assumption, by assumption⟩ | (simp only [hfar, hfar2]; exact ⟨by assumption, by assumption⟩) | exact heldS (by assumption) (by assumption) (by assumption)))
                clear hK K
                (try simp only [Act.put, List.setIfInBounds_toArray, List.set_cons_zero, List.set_cons_succ])
                refine wpAnyH_ready (rs := [22]) (by kernel_rfl) (by simp) ?_
                refine AllReadyH.cons rfl (fun K hK => ?_) AllReadyH.nil
                go_simp
                (go_at_call 54; go_split_ands; ((with_reducible refine (HK.out _ HB8.out).mono ?_); rintro r w2 ⟨rfl, hb2⟩; obtain ⟨y1, y2, y3, y4, y5, y6, y7, y8⟩ := heldC (w0 := wr) (w1 := wr.drew) (w2 := w2) b1 b2 b3 b4 b5 b6 b7 HB8.out hb2; have HY8 := Lib.hid y8; clear y8))
                dsimp only
                refine hK.out _ _ ?_ (fun hHeld => ?_)
                · ((try dsimp only); (go_split_ands; first | exact ⟨by assumption, by assumption⟩ | (simp only [hfar, hfar2]; exact ⟨by assumption, by assumption⟩) | exact heldS (by assumption) (by assumption) (by assumption)))
                clear hK K
                (try simp only [Act.put, List.setIfInBounds_toArray, List.set_cons_zero, List.set_cons_succ])
                refine wpAnyH_take (i := 23) (v := ?_) rfl (by kernel_rfl) (by kernel_rfl) (by kernel_rfl) (fun _ _ _ h => h) (Or.inl ⟨by rfl, ?_⟩) (by assumption) ?_
                rotate_left
                · (intro w hSw; (try dsimp only at hSw); first | (go_simp; done) | (go_simp; with_reducible rfl))
                (try simp only [Act.put, List.setIfInBounds_toArray, List.set_cons_zero, List.set_cons_succ])
                refine wpAnyH_ready (rs := [24]) (by kernel_rfl) (by simp) ?_
                refine AllReadyH.cons rfl (fun K hK => ?_) AllReadyH.nil
                go_simp
                refine hK.out _ _ ?_ (fun hHeld => ?_)
                · ((try dsimp only); (go_split_ands; first | exact ⟨by assumption, by assumption⟩ | (simp only [hfar, hfar2]; exact ⟨by assumption, by assumption⟩) | exact heldS (by assumption) (by assumption) (by assumption)))
                clear hK K
                (try simp only [Act.put, List.setIfInBounds_toArray, List.set_cons_zero, List.set_cons_succ])
                refine wpAnyH_done (by kernel_rfl) ?_ _
                all_goals
                  obtain ⟨csk', h1, h2, h3⟩ := HFin.out w2 HY8.out
                  have H1 := Lib.hid h1
                  have H2 := Lib.hid h2
                  have H3 := Lib.hid h3
                  clear h1 h2 h3 b1 b2 b3 b4 b5 b6 b7 y1 y2 y3 y4 y5 y6 y7
                  go_wp2
                  rw [(by rw [HLD.out] : Value.slice da 0 dcap = .slice da data.length dcap)]
                  go_roundg (LN - (k + 1))
                  case measure => have := hE.out; omega
                  case rel => exact ⟨k + 1, csk', by show _ = _; have := hE.out; omega, by omega, by go_num, H1.out, H2.out, H3.out⟩
              · subst hdb
                have hqI : (qq : Int) < (LD : Int) := by omega
                go_wp2_with fail
                obtain ⟨b1, b2, b3, b4, b5, b6, b7, b8⟩ := heldC (w0 := wr) (w1 := wr) (w2 := wr.drew) hd3 s2 f0 f1 f2' hg hfro (Below.refl _ _) (Below.refl _ _).drew
                have HB8 := Lib.hid b8
                clear b8
                refine wp_region_held_drew (S := fun w' => w'.cell? ⟨R, 3, none⟩ = some (.slice (some ⟨g, 0, none⟩) FN fcap) ∧ w'.cell? ⟨gs, k * 3 + 2, none⟩ = some (.int .i64 (j : Int))) (by kernel_rfl) ⟨by assumption, by assumption⟩ (fun hHeld => ?_)
                refine wpAnyH_take (i := 0) (v := ?_) rfl (by kernel_rfl) (by kernel_rfl) (by kernel_rfl) (fun _ _ _ h => h) (Or.inl ⟨by rfl, ?_⟩) (by assumption) ?_
                rotate_left
                · (intro w hSw; (try dsimp only at hSw); first | (go_simp; done) | (go_simp; with_reducible rfl))
                (try simp only [Act.put, List.setIfInBounds_toArray, List.set_cons_zero, List.set_cons_succ])
                refine wpAnyH_take (i := 1) (v := ?_) rfl (by kernel_rfl) (by kernel_rfl) (by kernel_rfl) (fun _ _ _ h => h) (Or.inl ⟨by rfl, ?_⟩) (by assumption) ?_
                rotate_left
                · (intro w hSw; (try dsimp only at hSw); first | (go_simp; done) | (go_simp; with_reducible rfl))
                (try simp only [Act.put, List.setIfInBounds_toArray, List.set_cons_zero, List.set_cons_succ])
                refine wpAnyH_take (i := 2) (v := ?_) rfl (by kernel_rfl) (by kernel_rfl) (by kernel_rfl) (fun _ _ _ h => h) (Or.inl ⟨by rfl, ?_⟩) (by assumption) ?_
                rotate_left
                · (intro w hSw; (try dsimp only at hSw); first | (go_simp; done) | (go_simp; with_reducible rfl))
                (try simp only [Act.put, List.setIfInBounds_toArray, List.set_cons_zero, List.set_cons_succ])
                refine wpAnyH_take (i := 3) (v := ?_) rfl (by kernel_rfl) (by kernel_rfl) (by kernel_rfl) (fun _ _ _ h => h) (Or.inl ⟨by rfl, ?_⟩) (by assumption) ?_
                rotate_left
                · (intro w hSw; (try dsimp only at hSw); first | (go_simp; done) | (go_simp; with_reducible rfl))
                (try simp only [Act.put, List.setIfInBounds_toArray, List.set_cons_zero, List.set_cons_succ])
                refine wpAnyH_take (i := 4) (v := ?_) rfl (by kernel_rfl) (by kernel_rfl) (by kernel_rfl) (fun _ _ _ h => h) (Or.inl ⟨by rfl, ?_⟩) (by assumption) ?_
                rotate_left
                · (intro w hSw; (try dsimp only at hSw); first | (go_simp; done) | (go_simp; with_reducible rfl))
                (try simp only [Act.put, List.setIfInBounds_toArray, List.set_cons_zero, List.set_cons_succ])
                refine wpAnyH_take (i := 5) (v := ?_) rfl (by kernel_rfl) (by kernel_rfl) (by kernel_rfl) (fun _ _ _ h => h) (Or.inl ⟨by rfl, ?_⟩) (by assumption) ?_
                rotate_left
                · (intro w hSw; (try dsimp only at hSw); first | (go_simp; done) | (go_simp; with_reducible rfl))
                (try simp only [Act.put, List.setIfInBounds_toArray, List.set_cons_zero, List.set_cons_succ])
                refine wpAnyH_take (i := 6) (v := ?_) rfl (by kernel_rfl) (by kernel_rfl) (by kernel_rfl) (fun _ _ _ h => h) (Or.inl ⟨by rfl, ?_⟩) (by assumption) ?_
                rotate_left
                · (intro w hSw; (try dsimp only at hSw); first | (go_simp; done) | (go_simp; with_reducible rfl))
                (try simp only [Act.put, List.setIfInBounds_toArray, List.set_cons_zero, List.set_cons_succ])
                refine wpAnyH_take (i := 7) (v := ?_) rfl (by kernel_rfl) (by kernel_rfl) (by kernel_rfl) (fun _ _ _ h => h) (Or.inl ⟨by rfl, ?_⟩) (by assumption) ?_
                rotate_left
                · (intro w hSw; (try dsimp only at hSw); first | (go_simp; done) | (go_simp; with_reducible rfl))
                (try simp only [Act.put, List.setIfInBounds_toArray, List.set_cons_zero, List.set_cons_succ])
                refine wpAnyH_take (i := 8) (v := ?_) rfl (by kernel_rfl) (by kernel_rfl) (by kernel_rfl) (fun _ _ _ h => h) (Or.inl ⟨by rfl, ?_⟩) (by assumption) ?_
                rotate_left
                · (intro w hSw; (try dsimp only at hSw); first | (go_simp; done) | (go_simp; with_reducible rfl))
                (try simp only [Act.put, List.setIfInBounds_toArray, List.set_cons_zero, List.set_cons_succ])
                refine wpAnyH_take (i := 9) (v := ?_) rfl (by kernel_rfl) (by kernel_rfl) (by kernel_rfl) (fun _ _ _ h => h) (Or.inl ⟨by rfl, ?_⟩) (by assumption) ?_
                rotate_left
                · (intro w hSw; (try dsimp only at hSw); first | (go_simp; done) | (go_simp; with_reducible rfl))
                (try simp only [Act.put, List.setIfInBounds_toArray, List.set_cons_zero, List.set_cons_succ])
                refine wpAnyH_take (i := 10) (v := ?_) rfl (by kernel_rfl) (by kernel_rfl) (by kernel_rfl) (fun _ _ _ h => h) (Or.inl ⟨by rfl, ?_⟩) (by assumption) ?_
                rotate_left
                · (intro w hSw; (try dsimp only at hSw); first | (go_simp; done) | (go_simp; with_reducible rfl))
                (try simp only [Act.put, List.setIfInBounds_toArray, List.set_cons_zero, List.set_cons_succ])
                refine wpAnyH_take (i := 11) (v := ?_) rfl (by kernel_rfl) (by kernel_rfl) (by kernel_rfl) (fun _ _ _ h => h) (Or.inl ⟨by rfl, ?_⟩) (by assumption) ?_
                rotate_left
                · (intro w hSw; (try dsimp only at hSw); first | (go_simp; done) | (go_simp; with_reducible rfl))
                (try simp only [Act.put, List.setIfInBounds_toArray, List.set_cons_zero, List.set_cons_succ])
                refine wpAnyH_take (i := 12) (v := ?_) rfl (by kernel_rfl) (by kernel_rfl) (by kernel_rfl) (fun _ _ _ h => h) (Or.inl ⟨by rfl, ?_⟩) (by assumption) ?_
                rotate_left
                · (intro w hSw; (try dsimp only at hSw); first | (go_simp; done) | (go_simp; with_reducible rfl))
                (try simp only [Act.put, List.setIfInBounds_toArray, List.set_cons_zero, List.set_cons_succ])
                refine wpAnyH_take (i := 13) (v := ?_) rfl (by kernel_rfl) (by kernel_rfl) (by kernel_rfl) (fun _ _ _ h => h) (Or.inl ⟨by rfl, ?_⟩) (by assumption) ?_
                rotate_left
                · (intro w hSw; (try dsimp only at hSw); first | (go_simp; done) | (go_simp; with_reducible rfl))
                (try simp only [Act.put, List.setIfInBounds_toArray, List.set_cons_zero, List.set_cons_succ])
                refine wpAnyH_take (i := 14) (v := ?_) rfl (by kernel_rfl) (by kernel_rfl) (by kernel_rfl) (fun _ _ _ h => h) (Or.inl ⟨by rfl, ?_⟩) (by assumption) ?_
                rotate_left
                · (intro w hSw; (try dsimp only at hSw); first | (go_simp; done) | (go_simp; with_reducible rfl))
                (try simp only [Act.put, List.setIfInBounds_toArray, List.set_cons_zero, List.set_cons_succ])
                refine wpAnyH_take (i := 15) (v := ?_) rfl (by kernel_rfl) (by kernel_rfl) (by kernel_rfl) (fun _ _ _ h => h) (Or.inl ⟨by rfl, ?_⟩) (by assumption) ?_
                rotate_left
                · (intro w hSw; (try dsimp only at hSw); first | (go_simp; done) | (go_simp; with_reducible rfl))
                (try simp only [Act.put, List.setIfInBounds_toArray, List.set_cons_zero, List.set_cons_succ])
                refine wpAnyH_take (i := 16) (v := ?_) rfl (by kernel_rfl) (by kernel_rfl) (by kernel_rfl) (fun _ _ _ h => h) (Or.inl ⟨by rfl, ?_⟩) (by assumption) ?_
                rotate_left
                · (intro w hSw; (try dsimp only at hSw); first | (go_simp; done) | (go_simp; with_reducible rfl))
                (try simp only [Act.put, List.setIfInBounds_toArray, List.set_cons_zero, List.set_cons_succ])
                refine wpAnyH_take (i := 17) (v := ?_) rfl (by kernel_rfl) (by kernel_rfl) (by kernel_rfl) (fun _ _ _ h => h) (Or.inl ⟨by rfl, ?_⟩) (by assumption) ?_
                rotate_left
                · (intro w hSw; (try dsimp only at hSw); first | (go_simp; done) | (go_simp; with_reducible rfl))
                (try simp only [Act.put, List.setIfInBounds_toArray, List.set_cons_zero, List.set_cons_succ])
                refine wpAnyH_take (i := 18) (v := ?_) rfl (by kernel_rfl) (by kernel_rfl) (by kernel_rfl) (fun _ _ _ h => h) (Or.inl ⟨by rfl, ?_⟩) (by assumption) ?_
                rotate_left
                · (intro w hSw; (try dsimp only at hSw); first | (go_simp; done) | (go_simp; with_reducible rfl))
                (try simp only [Act.put, List.setIfInBounds_toArray, List.set_cons_zero, List.set_cons_succ])
                refine wpAnyH_take (i := 20) (v := ?_) rfl (by kernel_rfl) (by kernel_rfl) (by kernel_rfl) (fun _ _ _ h => h) (Or.inl ⟨by rfl, ?_⟩) (by assumption) ?_
                rotate_left
                · (intro w hSw; (try dsimp only at hSw); first | (go_simp; done) | (go_simp; with_reducible rfl))
                (try simp only [Act.put, List.setIfInBounds_toArray, List.set_cons_zero, List.set_cons_succ])
                refine wpAnyH_take (i := 21) (v := ?_) rfl (by kernel_rfl) (by kernel_rfl) (by kernel_rfl) (fun _ _ _ h => h) (Or.inl ⟨by rfl, ?_⟩) (by assumption) ?_
                rotate_left
                · (intro w hSw; (try dsimp only at hSw); first | (go_simp; done) | (go_simp; with_reducible rfl))
                (try simp only [Act.put, List.setIfInBounds_toArray, List.set_cons_zero, List.set_cons_succ])
                refine wpAnyH_ready (rs := [19]) (by kernel_rfl) (by simp) ?_
                refine AllReadyH.cons rfl (fun K hK => ?_) AllReadyH.nil
                go_simp
                refine hK.out _ _ ?_ (fun hHeld => ?_)
                · ((try dsimp only); (go_split_ands; first | exact ⟨by assumption, by assumption⟩ | (simp only [hfar, hfar2]; exact ⟨by assumption, by assumption⟩) | exact heldS (by assumption) (by assumption) (by assumption)))
                clear hK K
                (try simp only [Act.put, List.setIfInBounds_toArray, List.set_cons_zero, List.set_cons_succ])
                refine wpAnyH_ready (rs := [22]) (by kernel_rfl) (by simp) ?_
                refine AllReadyH.cons rfl (fun K hK => ?_) AllReadyH.nil
                go_simp
                (go_at_call 54; go_split_ands; ((with_reducible refine (HK.out _ HB8.out).mono ?_); rintro r w2 ⟨rfl, hb2⟩; obtain ⟨y1, y2, y3, y4, y5, y6, y7, y8⟩ := heldC (w0 := wr) (w1 := wr.drew) (w2 := w2) b1 b2 b3 b4 b5 b6 b7 HB8.out hb2; have HY8 := Lib.hid y8; clear y8))
                dsimp only
                refine hK.out _ _ ?_ (fun hHeld => ?_)
                · ((try dsimp only); (go_split_ands; first | exact ⟨by assumption, by assumption⟩ | (simp only [hfar, hfar2]; exact ⟨by assumption, by assumption⟩) | exact heldS (by assumption) (by assumption) (by assumption)))
                clear hK K
                (try simp only [Act.put, List.setIfInBounds_toArray, List.set_cons_zero, List.set_cons_succ])
                refine wpAnyH_take (i := 23) (v := ?_) rfl (by kernel_rfl) (by kernel_rfl) (by kernel_rfl) (fun _ _ _ h => h) (Or.inl ⟨by rfl, ?_⟩) (by assumption) ?_
                rotate_left
                · (intro w hSw; (try dsimp only at hSw); first | (go_simp; done) | (go_simp; with_reducible rfl))
                (try simp only [Act.put, List.setIfInBounds_toArray, List.set_cons_zero, List.set_cons_succ])
                refine wpAnyH_ready (rs := [24]) (by kernel_rfl) (by simp) ?_
                refine AllReadyH.cons rfl (fun K hK => ?_) AllReadyH.nil
                go_simp
                refine hK.out _ _ ?_ (fun hHeld => ?_)
                · ((try dsimp only); (go_split_ands; first | exact ⟨by assumption, by assumption⟩ | (simp only [hfar, hfar2]; exact ⟨by assumption, by assumption⟩) | exact heldS (by assumption) (by assumption) (by assumption)))
                clear hK K
                (try simp only [Act.put, List.setIfInBounds_toArray, List.set_cons_zero, List.set_cons_succ])
                refine wpAnyH_done (by kernel_rfl) ?_ _
                all_goals
                  obtain ⟨csk', h1, h2, h3⟩ := HFin.out w2 HY8.out
                  have H1 := Lib.hid h1
                  have H2 := Lib.hid h2
                  have H3 := Lib.hid h3
                  clear h1 h2 h3 b1 b2 b3 b4 b5 b6 b7 y1 y2 y3 y4 y5 y6 y7
                  go_wp2
                  rw [(by rw [HLD.out] : Value.slice (some ⟨b, off, none⟩) LD dcap = .slice (some ⟨b, off, none⟩) data.length dcap)]
                  go_roundg (LN - (k + 1))
                  case measure => have := hE.out; omega
                  case rel => exact ⟨k + 1, csk', by show _ = _; have := hE.out; omega, by omega, by go_num, H1.out, H2.out, H3.out⟩
            · obtain rfl : LN = k := by omega
              have hrow := row_turn (S := fun b => q.fv.ownBlock = some b) (row_turn (S := fun _ => False) HROW.out (Turn.of_below HU.out.below) (fun _ _ => id)) HTK.out (fun b hb e => by
                have k1 := row_kind (row_turn (S := fun _ => False) HROW.out (Turn.of_below HU.out.below) (fun _ _ => id)) hb
                have k2 := row_kind HRB.out.files e
                have := k1.one k2; revert this; decide)
              have hown := HOWN.out
              have r0 := HRK.out
              have r1 := RefAt.put r0.block (r0.parts.newThings (l := lst) (by rw [HN.out]; exact hrow)) 0 (.slice la N lcap) rfl
              have r2 := RefAt.put r1.block r1.parts.newSafe 1 (.slice la N lcap) rfl
              have r3 := RefAt.put r2.block r2.parts.noSteps 2 (.slice none 0 0) rfl
              have r4 := r3.word 5 (.bool false) { things := lst, safe := lst, steps := [], files := keepAll m.files (numsF lst) data zeros LN, cap := m.cap, off := false, await := m.await } rfl rfl rfl rfl rfl
              have r5 := r4.word 6 (.int .i64 0) { things := lst, safe := lst, steps := [], files := keepAll m.files (numsF lst) data zeros LN, cap := m.cap, off := false, await := 0 } rfl rfl rfl rfl rfl
              have c0' : wr.cell? ⟨R, 0, none⟩ = some q.tv := r0.cell 0
              have g0 := r0.fro 0
              have c1' := r1.cell 1
              have g1 := r1.fro 1
              have c2' := r2.cell 2
              have g2 := r2.fro 2
              have c5' := r3.cell 5
              have g5 := r3.fro 5
              have c6' := r4.cell 6
              have g6 := r4.fro 6
              have hdone : RefDone w R q _ _ _ := ⟨r5, by
                have oR : q.own R R := .inl rfl
                have t1 : Turn (q.own R) w wr := (Turn.of_below (S := q.own R) HWB.out).trans (HTK.out.mono fun _ _ hh => .inr (.inr (.inl hh))) (fun _ _ hh => hh)
                exact ((((t1.set _ _ (fun _ => oR)).set _ _ (fun _ => oR)).set _ _ (fun _ => oR)).set _ _ (fun _ => oR)).set _ _ (fun _ => oR), fun b hb => by
                rcases hb with hb | hb | hb | ⟨v, hv, hb⟩
                · exact .inl (.inl hb)
                · cases hb
                · exact .inl (.inr (.inr (.inl hb)))
                · rcases HCS.out v hv with h1 | h1
                  · subst h1; cases hb
                  · exact .inl (.inr (.inr (.inr ⟨v, h1, hb⟩)))⟩
              have HDone := Lib.hid hdone
              clear hdone r0 r1 r2 r3 r4 r5 hrow hown hlt
              go_wp2
              go_end0
              exact ⟨rfl, _, by rw [HLST.out, HNL.out]; exact HDone.out⟩

end
end Go.Proofs.YtmmlefbokplnnaaGreatDoor.Disk

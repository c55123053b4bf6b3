/-
  The calls of the law DiskSafe, one after the other: what each leaves. Own text.
-/
import Derived.Test.YtanbmlikfhcpoaaDoorDSafeS
import Derived.Test.YtanbmlikfhcpoaaDoorDList
import Derived.Test.YtanbmlikfhcpoaaDoorDWake
namespace Go.Proofs.YtanbmlikfhcpoaaDoor.Disk
open Go.RowKit Go Go.Proofs.YtanbmlikfhcpoaaDoor.Base Go.Proofs.YtanbmlikfhcpoaaDoor.Map

section
variable {w0 w : World} {D : Nat} {G : DiskG} {E : Nat → Addr} {m T : Nat} {P : Nat → PF → Prop}

theorem Own.high (h : Own w0 w D G) (h8 : 8 ≤ w0.heap.size) : ∀ k, k < 8 → ¬ G.own D k := fun k hk hh => by have := h.own k hh; omega
theorem fresh_len (hf : Fresh G m) (hm : m ≤ 26) : G.steps.length < 1099511627776 := by
  have := congrArg List.length hf.steps
  simp [DiskG.nsteps, stN] at this
  omega
theorem px_size {i : Nat} (hi : i < 26) : (px i).size < 4294967281 := by rw [(px_facts i hi).2.2.2.1]; omega

theorem sf_new {w w' : World} {c : Int} (hd : DiskAt w' w.heap.size (newG c)) (hb : Below w.heap.size w w') : Own w w' w.heap.size (newG c) :=
  ⟨hd, hb, fun k hk => by
    rcases hk with hk | hk | hk | hk | ⟨x, hx, _⟩ | ⟨i, hi, _⟩
    · omega
    · simp [newG, TreeG.blocks] at hk
    · simp [newG, TreeG.blocks] at hk
    · cases hk
    · cases hx
    · cases hi⟩
theorem sf_mkdir {c : Int} (hc : (min (max c 0) 67108864).toNat = 67108864) (he : Env w0 E) (h8 : 8 ≤ w0.heap.size) (h : Own w0 w D (newG c)) : Calls Tryd.prog 6 #[.pointer (some ⟨D, 0, none⟩), .string sx] w fun r w' =>
    r = .returned .nilIface ∧ ∃ G', Own w0 w' D G' ∧ Have G' 0 P 0 ∧ Fresh G' 0 := by
  have hcode : mkdirCode (newG c) sx = 0 := by
    unfold mkdirCode existsG
    rw [sx_facts.1]
    have h1 : isFolderG (newG c).gc sx = false := by unfold isFolderG; rw [sx_facts.2.2.2]; rfl
    have h2 : fileOf (newG c).gc sx = none := by unfold fileOf lookFile; rfl
    rw [h1, h2]
    rfl
  have := Mkdir_any h.disk (h.env he) (show (0 : Nat) < 4611686018427387904 by decide) (h.high h8) (show (0 : Nat) < 1099511627776 by decide) sx (by decide)
  refine this.mono fun r w' ⟨v, G', h1, h2, h3, h4, h5, h6⟩ => ?_
  rw [hcode] at h2 h5
  rw [h2.zero] at h1
  exact ⟨h1, G', h.step h3 h4 h6, mkdired hc h5⟩

theorem sf_create (he : Env w0 E) (h8 : 8 ≤ w0.heap.size) (h : Own w0 w D G) (hv : Have G m P T) (hf : Fresh G m) (hm : m < 26) : Calls Tryd.prog 7 #[.pointer (some ⟨D, 0, none⟩), .string (px m)] w fun r w' =>
    r = .returned .nilIface ∧ ∃ G', Own w0 w' D G' ∧ Have G' (m + 1) (fun j p => if j < m then P j p else p = ⟨[], []⟩) T ∧ Fresh G' (m + 1) := by
  have := Create_any h.disk (h.env he) (hv.numsFresh hf) (by rw [hv.crash]; decide) (h.high h8) (by have := h.below.size; omega) (fresh_len hf (by omega)) (px m) (px_size hm)
  refine this.mono fun r w' ⟨v, G', h1, h2, h3, h4, h5, h6⟩ => ?_
  rw [hv.create hm] at h2 h5
  rw [h2.zero] at h1
  exact ⟨h1, G', h.step h3 h4 h6, hv.created hf hm h5⟩

theorem sf_append (he : Env w0 E) (h : Own w0 w D G) (hv : Have G m P T) (hn : NumsOk G) (hm : m ≤ 26) {i : Nat} (hi : i < m) (t : ByteArray) (ht : T + t.size ≤ 67108864)
    (hr : ∀ j, j < m → (pfAt G j).bytes.length < 549755813888 ∧ (pfAt G j).steps.length < 1099511627776 ∧ ∀ k r, (pfAt G j).steps.reverse = .add k :: r → k < 1099511627776) :
    Calls Tryd.prog 8 #[.pointer (some ⟨D, 0, none⟩), .string (px i), .slice (some ⟨w.heap.size, 0, none⟩) 1 1] (w.alloc (.cells #[.string t] 9)) fun r w' =>
      r = .returned .nilIface ∧ ∃ G', Own w0 w' D G' ∧ Have G' m (fun j q => if j = i then q = (pfAt G i).add (nums t) else P j q) (T + t.size) ∧ G'.gd = G.gd ∧ G'.steps = G.steps := by
  have hb : Below w.heap.size w (w.alloc (.cells #[.string t] 9)) := below_alloc _ _
  have hO := h.below_trans hb
  have hcat : cat (fun _ => t) 1 = nums t := by simp [cat]
  have hl : (nums t).length = t.size := nums_length t
  have := Append_any hO.disk (hO.env he) hn (by rw [hv.crash]; decide) (px i) (px_size (by omega)) (some ⟨w.heap.size, 0, none⟩) 1 1 (fun _ => t) (fun j hj => ⟨w.heap.size, 0, rfl, by simp, by
      obtain rfl : j = 0 := by omega
      rw [cell_of_row _ w.heap.size _ _ _ _ (heap_alloc_new w _)]
      rfl⟩) (fun b off e hk => by
      injection e with e
      injection e with e
      subst e
      have := Parts.own_lt h.disk _ hk
      omega) (by decide) (by rw [hcat, hl]; omega) (by rw [hv.cap]; decide) (by rw [hv.used]; omega) (fun j hj => hr j (by rw [← hv.len]; exact hj))
  rw [hcat, hl, hv.append hm hi ht] at this
  refine this.mono fun r w' ⟨v, G', h1, h2, h3, h4, h5, h6⟩ => ?_
  rw [h2.zero] at h1
  have := hv.appended hm hi h5
  rw [hl] at this
  exact ⟨h1, G', hO.step h3 h4 h6, this⟩

theorem sf_sync (he : Env w0 E) (h : Own w0 w D G) (hv : Have G m P T) (hn : NumsOk G) (hm : m ≤ 26) {i : Nat} (hi : i < m) :
    Calls Tryd.prog 9 #[.pointer (some ⟨D, 0, none⟩), .string (px i)] w fun r w' =>
      r = .returned .nilIface ∧ ∃ G', Own w0 w' D G' ∧ Have G' m (fun j q => if j = i then q = ⟨(pfAt G i).bytes, []⟩ else P j q) T ∧ G'.gd = G.gd ∧ G'.steps = G.steps := by
  have := Sync_any h.disk (h.env he) hn (by rw [hv.crash]; decide) (px i) (px_size (by omega))
  refine this.mono fun r w' ⟨v, G', h1, h2, h3, h4, h5, h6⟩ => ?_
  rw [hv.sync hm hi] at h2 h5
  rw [h2.zero] at h1
  exact ⟨h1, G', h.step h3 h4 h6, hv.synced hm hi h5⟩

theorem sf_names (he : Env w0 E) (h8 : 8 ≤ w0.heap.size) (h : Own w0 w D G) (hv : Have G m P T) (hf : Fresh G m) (hm : m ≤ 26) : Calls Tryd.prog 10 #[.pointer (some ⟨D, 0, none⟩)] w fun r w' =>
    r = .returned .nilIface ∧ ∃ G', Own w0 w' D G' ∧ Have G' m P T ∧ Firm G' m := by
  have := SyncNames_any h.disk (h.env he) (by rw [hv.crash]; decide) (h.high h8) (fresh_len hf hm) (Have.fits hf hm)
  refine this.mono fun r w' ⟨v, G', h1, h2, h3, h4, h5, h6⟩ => ?_
  rw [hv.snames] at h2 h5
  rw [h2.zero] at h1
  exact ⟨h1, G', h.step h3 h4 h6, hv.named hf hm h5⟩

theorem sf_restart {f : Nat → List Nat} (he : Env w0 E) (h8 : 8 ≤ w0.heap.size) (h : Own w0 w D G) (hv : Have G m (Safe f 1048576) T) (hf : Firm G m) (hm : m ≤ 26) (data : List Int) (vd : Value) (hdata : w.ownsRow 0 3 1 vd data.length (ints data)) (hdl : data.length < 1099511627776) (hdi : ∀ x ∈ data, inI x) (zeros : Bool) :
    Calls Tryd.prog 11 #[.pointer (some ⟨D, 0, none⟩), .int .i64 0, vd, .bool zeros] w fun r w' =>
      r = .returned (.tuple #[]) ∧ ∃ G', Own w0 w' D G' ∧ Have G' m (Starts f) G'.used ∧ Firm G' m := by
  have hs : G.nsteps = [] := by unfold DiskG.nsteps; rw [hf.steps]; rfl
  have h0 : G.steps.length = 0 := by rw [hf.steps]; rfl
  have := restart_any h.disk (h.env he) (h.high h8) (by omega) (fun j hj => absurd hj (by omega)) 0 ⟨by omega, by omega⟩ data vd hdata hdl hdi zeros 1048576 (by decide) (fun p hp => by
      obtain ⟨j, hj, hp⟩ := hv.goods p hp
      refine ⟨hp.front.good hp.ok, ?_, ?_⟩
      · have := hp.units; omega
      · have := hp.steps; omega) (fun gm ha => by
      rw [hs, List.take_nil] at ha
      cases ha
      obtain ⟨p1, p2⟩ := hf.gd.plain hm
      rw [hv.len]
      exact ⟨p1, by omega⟩)
  refine this.mono fun r w' ⟨h1, gd', F, dl, dx, G', ha, hp, hl, e, h3, h4, h6⟩ => ?_
  rw [hs, List.take_nil] at ha
  cases ha
  exact ⟨h1, G', h.step h3 h4 h6, hv.woken hf hp hl (by rw [e]) (by rw [e]) (by rw [e]) (by rw [e]) (by rw [e]) (by rw [e]) (by rw [e])⟩

theorem sf_all (he : Env w0 E) (h : Own w0 w D G) (hv : Have G m P T) (hn : NumsOk G) (hm : m ≤ 26) {i : Nat} (hi : i < m) :
    Calls Tryd.prog 12 #[.pointer (some ⟨D, 0, none⟩), .string (px i)] w fun r w' => r = .returned (.tuple #[.string (strN (pfAt G i).bytes), .nilIface]) ∧ Own w0 w' D G := by
  have := All_any h.disk (h.env he) hn (px i) (px_size (by omega))
  refine this.mono fun r w' ⟨v, h1, h2, h3⟩ => ?_
  rw [hv.open hm hi] at h2
  rw [h2.zero, hv.text hm hi] at h1
  exact ⟨h1, h.below_trans h3⟩

theorem sf_list (he : Env w0 E) (h : Own w0 w D G) (hv : Have G m P T) (hn : NumsOk G) (hm : m ≤ 26) :
    Calls Tryd.prog 13 #[.pointer (some ⟨D, 0, none⟩), .string sx] w fun r w' => ∃ ao cap, r = .returned (.tuple #[.slice ao m cap, .nilIface]) ∧ Own w0 w' D G := by
  obtain ⟨b, hl⟩ := hv.shape.look
  have hz := sx_facts.2.2.2
  have hf : fileOf G.gc sx = none := by
    obtain ⟨fm, b0, hg⟩ := hv.shape
    have hne : ¬ sx = ByteArray.empty := fun e => by rw [e] at hz; cases hz
    unfold fileOf lookFile lookDir
    rw [hg, sx_facts.2.1]
    simp [hne]
  have hfl : (fsN m).length = m := by simp [fsN]
  have := List_any h.disk (h.env he) hn sx (by rw [hz]; decide) (by rw [hz]; decide) hv.off sx_facts.1 hf _ hl (by show (fsN m).length < _; rw [hfl]; omega)
  simp only [hfl] at this
  exact this.mono fun r w' ⟨ao, cap, h1, h2⟩ => ⟨ao, cap, h1, h.below_trans h2⟩
end
end Go.Proofs.YtanbmlikfhcpoaaDoor.Disk

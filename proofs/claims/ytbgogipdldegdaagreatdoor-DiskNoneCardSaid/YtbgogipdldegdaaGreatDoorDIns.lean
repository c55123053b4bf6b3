/-
  A script as it comes in. Own text.
-/
import Derived.Test.YtbgogipdldegdaaGreatDoorDNoneW
import Derived.Test.YtbgogipdldegdaaGreatDoorLaw
import Derived.SizedLaws
namespace Go.Proofs.YtbgogipdldegdaaGreatDoor.Disk
open Go.RowKit Go Go.Proofs.YtbgogipdldegdaaGreatDoor.Base Go.Proofs.YtbgogipdldegdaaGreatDoor.Map Go.ChangeShapes Go.WideShapes Go.ChangeAt Go.Deep

section
variable {H : Type} {enc : TypeId × Value → H} {w : World} {base : Nat}

theorem wAll {t : TypeId} {d : DataW H} {l : List (DataW H)} (hd : d ∈ l) : ∀ q ∈ d.weights Tryz.prog t, q ∈ DataW.weightsAll Tryz.prog t l := by
  induction l with
  | nil => cases hd
  | cons a r ih =>
    intro q hq
    rw [DataW.weightsAll]
    rcases List.mem_cons.1 hd with rfl | hd
    · exact List.mem_append_left _ hq
    · exact List.mem_append_right _ (ih hd q hq)

theorem open_texts {fuel : Nat} {v : Value} {x : DataW H × List MemPlace} (h : DataW.trod enc Tryz.prog w base (fun _ => true) true fuel 28 [v] = some x) (hz : ∀ q ∈ x.1.weights Tryz.prog 28, q ≤ reachBytes) :
    ∃ l, TextsAt w v l ∧ l.length * 16 ≤ 140737488355328 := by
  rcases open_slice1 Tryz.underlying28 (by kernel_rfl) h with ⟨hv, hx⟩ | ⟨a, len, cap, m, n, V, D, Pl, hv, hb, hl, hm, hmm, hx, hi⟩
  · injection hv with hv _
    exact ⟨[], .inl ⟨0, hv, rfl⟩, by simp⟩
  · injection hv with hv _
    have hlm : len ≤ m := by rw [hmm]; split <;> omega
    have each : ∀ i, i < len → ∃ s : ByteArray, w.cell? (a.add i) = some (.string s) := fun i hil => by
      obtain ⟨c0, t0⟩ := hi i (by omega)
      obtain ⟨s, e, _⟩ := DataW.trod_string Tryz.underlying9 t0
      injection e with e _
      exact ⟨s, by rw [c0, e]⟩
    obtain ⟨f, hf⟩ := choose_lt each
    refine ⟨(List.range len).map f, .inr ⟨a, cap, by rw [hv]; simp, fun j u hj => ?_⟩, ?_⟩
    · have hjl : j < len := by
        rcases Nat.lt_or_ge j len with hh | hh
        · exact hh
        · rw [List.getElem?_eq_none (by simpa using hh)] at hj; cases hj
      simp [hjl] at hj
      rw [← hj]
      exact hf j hjl
    · have hb16 : Tryz.prog.bytesOf 9 = 16 := by kernel_rfl
      have := hz ((len + (m - len)) * 16) (by rw [hx]; simp [DataW.weights, Tryz.underlying28, hb16])
      have hr := reachBytes_lt
      simp only [List.length_map, List.length_range]
      omega

theorem open_data {fuel : Nat} {v : Value} {x : DataW H × List MemPlace} (h : DataW.trod enc Tryz.prog w base (fun _ => true) true fuel 29 [v] = some x) : ∃ a m c, v = .slice a m c := by
  rcases open_slice1 Tryz.underlying29 (by kernel_rfl) h with ⟨hv, _⟩ | ⟨a, len, cap, m, n, V, D, Pl, hv, _⟩
  · injection hv with hv _
    exact ⟨_, _, _, hv⟩
  · injection hv with hv _
    exact ⟨_, _, _, hv⟩

theorem c_op : Tryz.prog.cellsOf 31 = 8 := by kernel_rfl
theorem c_int : Tryz.prog.cellsOf 3 = 1 := by kernel_rfl
theorem c_str : Tryz.prog.cellsOf 9 = 1 := by kernel_rfl
theorem c_bool : Tryz.prog.cellsOf 4 = 1 := by kernel_rfl
theorem c_sstr : Tryz.prog.cellsOf 28 = 1 := by kernel_rfl
theorem c_sint : Tryz.prog.cellsOf 29 = 1 := by kernel_rfl

instance : Inhabited OpG := ⟨⟨0, ByteArray.empty, ByteArray.empty, 0, 0, .slice none 0 0, .slice none 0 0, false, []⟩⟩

set_option maxRecDepth 100000 in
theorem open_op {fuel : Nat} {cs : List Value} {x : DataW H × List MemPlace} (h : DataW.trod enc Tryz.prog w base (fun _ => true) true fuel 31 cs = some x) (hz : ∀ q ∈ x.1.weights Tryz.prog 31, q ≤ reachBytes) :
    ∃ o : OpG, cs = o.cells.toList ∧ o.Ok w := by
  have hu := Tryz.underlying31
  obtain ⟨xs, n, _, hx, hl, hxl, hf⟩ := DataW.trod_struct hu h
  rw [c_op] at hl
  match xs, hxl, cs, hl with
  | [y0, y1, y2, y3, y4, y5, y6, y7], _, [v0, v1, v2, v3, v4, v5, v6, v7], _ =>
    have g0 := hf 0 _ rfl
    have g1 := hf 1 _ rfl
    have g2 := hf 2 _ rfl
    have g3 := hf 3 _ rfl
    have g4 := hf 4 _ rfl
    have g5 := hf 5 _ rfl
    have g6 := hf 6 _ rfl
    have g7 := hf 7 _ rfl
    simp [c_int, c_str, c_bool, c_sstr, c_sint] at g0 g1 g2 g3 g4 g5 g6 g7
    obtain ⟨i0, e0, _, _⟩ := DataW.trod_int Tryz.underlying3 g0
    obtain ⟨s1, e1, q1, _⟩ := DataW.trod_string Tryz.underlying9 g1
    obtain ⟨s2, e2, q2, _⟩ := DataW.trod_string Tryz.underlying9 g2
    obtain ⟨i3, e3, _, _⟩ := DataW.trod_int Tryz.underlying3 g3
    obtain ⟨i4, e4, _, _⟩ := DataW.trod_int Tryz.underlying3 g4
    obtain ⟨b7, e7, _⟩ := DataW.trod_bool Tryz.underlying4 g7
    obtain ⟨a6, m6, c6, e6⟩ := open_data g6
    have hw : ∀ q, q ∈ y1.1.weights Tryz.prog 9 ∨ q ∈ y2.1.weights Tryz.prog 9 ∨ q ∈ y5.1.weights Tryz.prog 28 → q ≤ reachBytes := fun q hq => hz q (by
      rw [hx]
      simp only [List.map_cons, List.map_nil, DataW.weights, hu, DataW.weightsEach, List.mem_append]
      rcases hq with hq | hq | hq
      · exact .inr (.inl hq)
      · exact .inr (.inr (.inl hq))
      · exact .inr (.inr (.inr (.inr (.inr (.inl hq))))))
    obtain ⟨l, ht, hln⟩ := open_texts g5 (fun q hq => hw q (.inr (.inr hq)))
    have hr := reachBytes_lt
    have w1 := hw s1.size (.inl (by rw [q1]; simp [DataW.weights]))
    have w2 := hw s2.size (.inr (.inl (by rw [q2]; simp [DataW.weights])))
    injection e0 with e0 _
    injection e1 with e1 _
    injection e2 with e2 _
    injection e3 with e3 _
    injection e4 with e4 _
    injection e7 with e7 _
    exact ⟨⟨i0, s1, s2, i3, i4, v5, v6, b7, l⟩, by simp [OpG.cells, e0, e1, e2, e3, e4, e7], ht, hln, by simp only; omega, by simp only; omega, a6, m6, c6, e6⟩

theorem open_ops {fuel : Nat} {v : Value} {x : DataW H × List MemPlace} (h : DataW.trod enc Tryz.prog w base (fun _ => true) true fuel 22 [v] = some x) (hz : ∀ q ∈ x.1.weights Tryz.prog 22, q ≤ reachBytes) :
    ∃ ao n cap ops, v = .slice ao n cap ∧ OpsAt w ao n ops ∧ n < 4611686018427387904 := by
  rcases open_slice Tryz.underlying22 h with ⟨hv, hx⟩ | ⟨a, len, cap, m, n, D, Pl, hv, hb, hl, hm, hmm, hx, hi⟩
  · injection hv with hv _
    exact ⟨none, 0, 0, fun _ => default, hv, fun j hj => by omega, by omega⟩
  · injection hv with hv _
    rw [c_op] at hi
    have hlm : len ≤ m := by rw [hmm]; split <;> omega
    have each : ∀ i, i < len → ∃ o : OpG, (∃ b off, a = ⟨b, off, none⟩ ∧ b < w.heap.size ∧ ∀ q, q < 8 → w.cell? ⟨b, off + (i * 8 + q), none⟩ = o.cells[q]?) ∧ o.Ok w := fun i hil => by
      obtain ⟨cs', h1, h2⟩ := hi i (by omega)
      obtain ⟨_, hlen, hcell⟩ := World.cells?_some h1
      obtain ⟨o, ho, hok⟩ := open_op h2 (fun q hq => hz q (by
        rw [hx]
        simp only [DataW.weights, Tryz.underlying22, List.mem_cons, List.mem_append]
        exact .inr (.inl (wAll (List.mem_map.2 ⟨i, List.mem_range.2 hil, rfl⟩) q hq))))
      refine ⟨o, ?_, hok⟩
      have hc : ∀ q, q < 8 → w.cell? ((a.add (i * 8)).add q) = o.cells[q]? := fun q hq => by
        rw [hcell q hq, ho]; simp
      obtain ⟨b, off, spot⟩ := a
      have hspot : spot = none := by
        obtain ⟨ct, h1t, _⟩ := hi 0 (by omega)
        obtain ⟨_, hlent, hcellt⟩ := World.cells?_some h1t
        have h0 := hcellt 0 (by omega)
        rw [List.getElem?_eq_getElem (by omega)] at h0
        simpa [Addr.add] using World.cell?_spot h0
      subst hspot
      have hc2 : ∀ q, q < 8 → w.cell? ⟨b, off + (i * 8 + q), none⟩ = o.cells[q]? := fun q hq => by
        have := hc q hq
        rw [Go.WideShapes.add_plain, Go.WideShapes.add_plain, Nat.add_assoc] at this
        exact this
      exact ⟨b, off, rfl, World.block_lt_of_cell? w _ ((hc2 0 (by omega)).trans (by rfl : o.cells[0]? = some (.int .i64 o.k))), hc2⟩
    obtain ⟨f, hf⟩ := choose_lt each
    refine ⟨some a, len, cap, f, hv, fun j hj => ?_, ?_⟩
    · obtain ⟨⟨b, off, e, h1, h2⟩, h3⟩ := hf j hj
      exact ⟨b, off, by rw [e], h1, h2, h3⟩
    · have hb112 : Tryz.prog.bytesOf 31 = 112 := by kernel_rfl
      have hb96 : 1 ≤ Tryz.prog.bytesOf 31 := by rw [hb112]; omega
      have := hz ((len + (m - len)) * Tryz.prog.bytesOf 31) (by rw [hx]; simp [DataW.weights, Tryz.underlying22])
      have hr := reachBytes_lt
      have : len ≤ (len + (m - len)) * Tryz.prog.bytesOf 31 := Nat.le_trans (by omega) (Nat.le_mul_of_pos_right _ hb96)
      omega
end
end Go.Proofs.YtbgogipdldegdaaGreatDoor.Disk

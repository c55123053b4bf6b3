/-
  For every text and every list of widths, together of bulk at most 1048576 (each value and each letter counted each time it is reached), BitsReads returns true, and both read afterwards as they read before.
-/
import Derived.Test.YtmenhgdedllioaaReads
import Derived.Test.YtmenhgdedllioaaLaw
import Derived.Test.YtmenhgdedllioaaUpto
namespace Go.Proofs.Ytmenhgdedllioaa
open Go.ChangeShapes Go.WideShapes Go.ChangeAt Go.RowKit Go.Deep Go.Proofs.Ytmenhgdedllioaa.Law Go.Proofs.Ytmenhgdedllioaa.Bits
open Go.ChangeMaps (open_string)

theorem open_widths {H : Type} {enc : TypeId × Value → H} {w : World} {base fuel : Nat} {v : Value} {x : DataW H × List MemPlace} (h : DataW.trod enc Try.prog w base (fun _ => true) true fuel 37 [v] = some x) :
    ∃ ao len cap N, v = .slice ao len cap ∧ IntsAt w ao len N ∧ (x.1 = .nil ∧ len = 0 ∨ ∃ elems spare, x.1 = .slice elems spare ∧ elems.length = len) := by
  rcases open_ints Try.underlying37 Try.underlying3 (by kernel_rfl) h with ⟨hv, hx⟩ | ⟨a, len, cap, zs, hv, _, hl, hm, hz, hx, hc, _⟩
  · injection hv with hv _
    subst hv
    exact ⟨none, 0, 0, fun _ => 0, rfl, fun j hj => by omega, .inl ⟨by rw [hx], rfl⟩⟩
  · injection hv with hv _
    subst hv
    have hz' : zs.length = cap := by simpa using hz
    refine ⟨some a, len, cap, fun j => zs.getD j 0, rfl, ?_, .inr ⟨_, _, by rw [hx], by simp only [lits, List.length_map, List.length_take]; omega⟩⟩
    intro j hj
    obtain ⟨b, off, spot⟩ := a
    have h0 := hc j (by omega)
    have hspot : spot = none := by
      have h00 := hc 0 (by omega)
      simpa [Addr.add] using World.cell?_spot h00
    subst hspot
    rw [Go.WideShapes.add_plain] at h0
    exact ⟨b, off, rfl, World.block_lt_of_cell? w _ h0, h0⟩

theorem reads_contract (H : Type) (enc : TypeId × Value → H) (W : World) (base : Nat) (args : Array Value) (ds gs : List (DataW H)) (before : List MemPlace)
    (hval : ∀ (j : Nat) t v, Try.f4.params[j]? = some t → args[j]? = some v → Value.okWide Try.prog W .any base t v)
    (hW : DataW.Whole enc Try.prog Try.f4.params.toList Rows.bitsReadsSpec.vars false W args.toList ds gs before) (hk : Rows.uptoSmall H (ds ++ gs) = true) :
    Calls Try.prog 4 args W fun e W' => ∃ v, e = .returned v ∧ Rows.bitsReadsSpec.post enc Try.prog Try.f4 false true false false W args v W' := by
  have hW' := hW
  obtain ⟨p, q, hA0, hV, rfl, _, _⟩ := hW
  have hA : DataW.TrodAll enc Try.prog W 0 (fun _ => true) true Try.f4.params.toList args.toList ds p := hA0
  rw [Try.params4] at hA hval
  obtain ⟨v0, v1, d0, d1, p0, p1, rfl, rfl, rfl, h0, h1⟩ := trodAll_two hA
  obtain ⟨rfl, rfl⟩ := trodVars_none hV
  obtain ⟨s, rfl, rfl, rfl, hs⟩ := open_string Try.underlying9 (hval 0 9 v0 rfl rfl) h0
  obtain ⟨fuel, hf⟩ := h1
  obtain ⟨a0, l0, c0, hv1⟩ := okWide_slice Try.underlying37 (hval 1 37 v1 rfl rfl)
  subst hv1
  obtain ⟨ao, len, cap, N, hv, hF, hd⟩ := open_widths hf
  injection hv with e1 e2 e3
  subst e1 e2 e3
  have hb := bulk_bound hk
  simp only [List.append_nil, Rows.uptoBulkAll, bulk_text] at hb
  have hsz : s.size ≤ 1048576 := by
    have : s.data.toList.length = s.size := by simp
    omega
  have hlen : l0 ≤ 1048576 := by
    rcases hd with ⟨_, h⟩ | ⟨elems, spare, hd, he⟩
    · omega
    · have hd' : d1 = .slice elems spare := hd
      subst hd'
      have h2 := bulk_slice elems spare
      omega
  refine (reads_walk s a0 l0 c0 N W hsz hlen hF).mono fun e W' ⟨he, hb⟩ => ?_
  subst he
  exact ⟨_, rfl, law_post hW' rfl rfl Try.underlying4 laidOut (by kernel_rfl) rfl hb⟩

set_option maxRecDepth 100000 in
theorem reads_lifted (os : Os) (started : os.Started) (H : Type) (enc : TypeId × Value → H) (F : Stop.Interp) :
    ReturnsInHanded {} Try.checked os 4 .any ((Rows.OpenSpec.upto Rows.bitsReadsSpec).pre6 enc Try.prog Try.f4 Rows.bitsReadsUptoRow.domain false) (((Rows.OpenSpec.upto Rows.bitsReadsSpec).at F).post enc Try.prog Try.f4 false true false false) := by
  refine returnsInHanded_of_cond (C := Try.checked) (s := Rows.OpenSpec.upto Rows.bitsReadsSpec) (k := Rows.uptoSmall) rfl own started (by kernel_rfl) Try.func4
    (OpenSpec.witness (enc := enc) (C := Try.checked) (s := Rows.OpenSpec.upto Rows.bitsReadsSpec) (k := Rows.uptoSmall) rfl false ⟨#[], #[.string ByteArray.empty, .slice none 0 0], []⟩ 8 (by kernel_rfl) (by kernel_rfl) (by kernel_rfl)
      (x := ([.lit (.string []), .nil], [], [])) (by kernel_rfl) rfl (by kernel_rfl)) ?_
  intro W base args ds gs before hval hW _ hk _
  exact reads_contract H enc W base args ds gs before hval hW hk

theorem reads_holds : Rows.BitsReadsUptoSaid :=
  OpenClaim.holds_of_cond 4 Try.f4 rfl rfl rfl rfl rfl rfl rfl ⟨rfl, rfl, rfl, rfl, rfl⟩ rfl rfl rfl rfl rfl (by kernel_rfl) Try.func4 (by kernel_rfl)
    (of_decide_eq_true (by kernel_rfl)) (by unfold Func.isWrapper; first | (rw [if_pos (by decide +kernel)]; kernel_rfl) | (rw [if_neg (by decide +kernel)]; exact ⟨rfl, rfl⟩))
    (fun os started H enc _ F => reads_lifted os started H enc F)

end Go.Proofs.Ytmenhgdedllioaa

/-
  Paths: taken apart at the first slash; contracts of isPath, split, folderOf. Own text.
-/
import Derived.Test.YtanbmlikfhcpoaaDoorDName
namespace Go.Proofs.YtanbmlikfhcpoaaDoor.Disk
open Go.RowKit Go Go.Proofs.YtanbmlikfhcpoaaDoor.Base Go.Shelf

theorem index_slash (l : List UInt8) : Lib.index l [47] = if (l.map UInt8.toNat).findIdx (· == 47) < l.length then (((l.map UInt8.toNat).findIdx (· == 47) : Nat) : Int) else -1 := by
  induction l with
  | nil => rfl
  | cons b r ih =>
    unfold Lib.index
    rw [ih, List.map_cons, List.findIdx_cons]
    by_cases h : b = 47
    · subst h
      simp [List.isPrefixOf]
    · have h1 : (b.toNat == 47) = false := by
        rw [beq_eq_false_iff_ne]
        intro e
        exact h (UInt8.toNat_inj.1 e)
      have h2 : ([47] : List UInt8).isPrefixOf (b :: r) = false := by
        simp [List.isPrefixOf]
        exact fun e => h e.symm
      rw [h1, h2]
      simp only [Bool.false_eq_true, if_false, cond_false, List.length_cons]
      generalize (List.map UInt8.toNat r).findIdx (· == 47) = k
      by_cases h3 : k < r.length
      · have e1 : (if k < r.length then ((k : Nat) : Int) else -1) = (k : Int) := if_pos h3
        have e2 : (if k + 1 < r.length + 1 then ((k + 1 : Nat) : Int) else -1) = ((k + 1 : Nat) : Int) := if_pos (by omega)
        rw [e1, e2]
        have : (((k : Nat) : Int) == -1) = false := by rw [beq_eq_false_iff_ne]; omega
        rw [this]
        simp
      · have e1 : (if k < r.length then ((k : Nat) : Int) else -1) = -1 := if_neg h3
        have e2 : (if k + 1 < r.length + 1 then ((k + 1 : Nat) : Int) else -1) = -1 := if_neg (by omega)
        rw [e1, e2]
        rfl

/-- a path without a slash, or with one -/
theorem cut_slash (s : ByteArray) : Lib.cut s.data.toList [47] = if sl s < s.size then ((s.extract 0 (sl s)).data.toList, (s.extract (sl s + 1) s.size).data.toList, true) else (s.data.toList, [], false) := by
  have hl : s.data.toList.length = s.size := by simp
  unfold Lib.cut
  rw [index_slash]
  change (if 0 ≤ (if sl s < s.data.toList.length then ((sl s : Nat) : Int) else -1) then _ else _) = _
  rw [hl]
  by_cases h : sl s < s.size
  · rw [if_pos h, if_pos h, if_pos (by omega)]
    change (List.take ((if sl s < s.data.toList.length then ((sl s : Nat) : Int) else -1)).toNat _, List.drop ((if sl s < s.data.toList.length then ((sl s : Nat) : Int) else -1).toNat + 1) _, true) = _
    rw [hl, if_pos h, Int.toNat_natCast]
    congr 1
    · simp [ByteArray.data_extract]
    · congr 1
      simp [ByteArray.data_extract]
      rw [List.take_of_length_le]
      simp
  · rw [if_neg h, if_neg h, if_neg (by omega)]

def gMax : Nat := 6
/-- what the library's text looks at -/
def Max (w : World) : Prop := ∃ m, w.cell? ⟨gMax, 0, none⟩ = some (.int .i64 m)

theorem bytes_eta (s : ByteArray) : (⟨s.data.toList.toArray⟩ : ByteArray) = s := by cases s; simp
theorem bytes_nil : (⟨([] : List UInt8).toArray⟩ : ByteArray) = ByteArray.empty := rfl

theorem cut_in (s : ByteArray) (h : sl s < s.size) (hs : s.size < 4294967281) (w : World) (hm : Max w) : Calls Tryd.prog 52 #[.string s, .string ⟨#[47]⟩] w fun e w' =>
    e = .returned (.tuple #[.string (s.extract 0 (sl s)), .string (s.extract (sl s + 1) s.size), .bool true]) ∧ ∃ n, w' = w.drewN n := by
  obtain ⟨m, hm⟩ := hm
  have hc := Any.strings_Cut Tryd.cut145 s ⟨#[47]⟩ m w hs hm
  change Calls Tryd.prog 52 #[.string s, .string ⟨#[47]⟩] w _ at hc
  have e : Lib.cut s.data.toList (⟨#[47]⟩ : ByteArray).data.toList = _ := cut_slash s
  rw [if_pos h] at e
  refine hc.mono fun e' w' ⟨h1, h2⟩ => ⟨?_, h2⟩
  rw [h1, e, bytes_eta, bytes_eta]

theorem cut_out (s : ByteArray) (h : ¬ sl s < s.size) (hs : s.size < 4294967281) (w : World) (hm : Max w) : Calls Tryd.prog 52 #[.string s, .string ⟨#[47]⟩] w fun e w' =>
    e = .returned (.tuple #[.string s, .string ⟨#[]⟩, .bool false]) ∧ ∃ n, w' = w.drewN n := by
  obtain ⟨m, hm⟩ := hm
  have hc := Any.strings_Cut Tryd.cut145 s ⟨#[47]⟩ m w hs hm
  change Calls Tryd.prog 52 #[.string s, .string ⟨#[47]⟩] w _ at hc
  have e : Lib.cut s.data.toList (⟨#[47]⟩ : ByteArray).data.toList = _ := cut_slash s
  rw [if_neg h] at e
  refine hc.mono fun e' w' ⟨h1, h2⟩ => ⟨?_, h2⟩
  rw [h1, e, bytes_eta]

theorem split_any (s : ByteArray) (hs : s.size < 4294967281) (w : World) (hm : Max w) : Calls Tryd.prog 45 #[.string s] w fun e w' =>
    e = .returned (.tuple #[.string (dirOf s), .string (baseOf s)]) ∧ ∃ n, w' = w.drewN n := by
  unfold dirOf baseOf
  by_cases h : sl s < s.size
  · have hc := cut_in s h hs w hm
    rw [if_pos h, if_pos h]
    clear hm h hs
    generalize s.extract 0 (sl s) = d at hc ⊢
    generalize s.extract (sl s + 1) s.size = b at hc ⊢
    go_enter Tryd.func45, Tryd.ntmps45
    go_wp2_with (go_at_call 52; refine hc.mono ?_; rintro e w2 ⟨rfl, n, rfl⟩)
    go_ret2
    exact ⟨rfl, n, rfl⟩
  · have hc := cut_out s h hs w hm
    rw [if_neg h, if_neg h]
    clear hm h hs
    go_enter Tryd.func45, Tryd.ntmps45
    go_wp2_with (go_at_call 52; refine hc.mono ?_; rintro e w2 ⟨rfl, n, rfl⟩)
    go_ret2
    exact ⟨rfl, n, rfl⟩

theorem folderOf_any (s : ByteArray) (hs : s.size < 4294967281) (w : World) (hm : Max w) : Calls Tryd.prog 38 #[.string s] w fun e w' =>
    e = .returned (.string (dirOf s)) ∧ ∃ n, w' = w.drewN n := by
  have hc := split_any s hs w hm
  clear hm hs
  generalize dirOf s = d at hc ⊢
  generalize baseOf s = b at hc ⊢
  go_enter Tryd.func38, Tryd.ntmps38
  go_wp2_with (go_at_call 45; refine hc.mono ?_; rintro e w2 ⟨rfl, n, rfl⟩)
  go_ret
  exact ⟨rfl, n, rfl⟩

theorem isPath_any (s : ByteArray) (hs : s.size < 4294967281) (w : World) (hm : Max w) : Calls Tryd.prog 37 #[.string s] w fun e w' =>
    e = .returned (.bool (isPath s)) ∧ ∃ n, w' = w.drewN n := by
  unfold isPath
  by_cases h : sl s < s.size
  · have hc := cut_in s h hs w hm
    have h1 : ∀ w, Calls Tryd.prog 30 #[.string (s.extract 0 (sl s))] w fun e w' => e = .returned (.bool (isName (s.extract 0 (sl s)))) ∧ w = w' := fun w => isName_any _ (by rw [ByteArray.size_extract]; omega) w
    have h2 : ∀ w, Calls Tryd.prog 30 #[.string (s.extract (sl s + 1) s.size)] w fun e w' => e = .returned (.bool (isName (s.extract (sl s + 1) s.size))) ∧ w = w' := fun w => isName_any _ (by rw [ByteArray.size_extract]; omega) w
    rw [if_pos h]
    clear hm h hs
    generalize s.extract 0 (sl s) = d at hc h1 ⊢
    generalize s.extract (sl s + 1) s.size = b at hc h2 ⊢
    generalize isName d = x at h1 ⊢
    generalize isName b = y at h2 ⊢
    have H1 := Lib.hid h1
    have H2 := Lib.hid h2
    clear h1 h2
    cases x
    · go_enter Tryd.func37, Tryd.ntmps37
      go_wp2_with (first | (go_at_call 52; refine hc.mono ?_; rintro e w2 ⟨rfl, n, rfl⟩) | (go_at_call 30; ((with_reducible refine (H1.out _).mono ?_); rintro e w2 ⟨rfl, rfl⟩)))
      go_ret
      exact ⟨rfl, n, rfl⟩
    · go_enter Tryd.func37, Tryd.ntmps37
      go_wp2_with (first | (go_at_call 52; refine hc.mono ?_; rintro e w2 ⟨rfl, n, rfl⟩) | (go_at_call 30; ((with_reducible refine (H1.out _).mono ?_); rintro e w2 ⟨rfl, rfl⟩)) | (go_at_call 30; ((with_reducible refine (H2.out _).mono ?_); rintro e w2 ⟨rfl, rfl⟩)))
      go_ret
      exact ⟨rfl, n, rfl⟩
  · have hc := cut_out s h hs w hm
    have h1 : ∀ w, Calls Tryd.prog 30 #[.string s] w fun e w' => e = .returned (.bool (isName s)) ∧ w = w' := fun w => isName_any _ (by omega) w
    rw [if_neg h]
    clear hm h hs
    generalize isName s = x at h1 ⊢
    have H1 := Lib.hid h1
    clear h1
    cases x
    · go_enter Tryd.func37, Tryd.ntmps37
      go_wp2_with (first | (go_at_call 52; refine hc.mono ?_; rintro e w2 ⟨rfl, n, rfl⟩) | (go_at_call 30; ((with_reducible refine (H1.out _).mono ?_); rintro e w2 ⟨rfl, rfl⟩)))
      go_ret
      exact ⟨rfl, n, rfl⟩
    · go_enter Tryd.func37, Tryd.ntmps37
      go_wp2_with (first | (go_at_call 52; refine hc.mono ?_; rintro e w2 ⟨rfl, n, rfl⟩) | (go_at_call 30; ((with_reducible refine (H1.out _).mono ?_); rintro e w2 ⟨rfl, rfl⟩)))
      go_ret
      exact ⟨rfl, n, rfl⟩

end Go.Proofs.YtanbmlikfhcpoaaDoor.Disk

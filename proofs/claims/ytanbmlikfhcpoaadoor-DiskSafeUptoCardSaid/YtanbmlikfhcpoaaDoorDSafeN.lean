/-
  The rounds of the law DiskSafe: a file made, a text added behind, a file read. Own text.
-/
import Derived.Test.YtanbmlikfhcpoaaDoorDSafeM
namespace Go.Proofs.YtanbmlikfhcpoaaDoor.Disk
open Go.RowKit Go Go.Proofs.YtanbmlikfhcpoaaDoor.Base Go.Proofs.YtanbmlikfhcpoaaDoor.Map

def totX (l : List ByteArray) : Nat := (l.map ByteArray.size).sum
theorem totX_append (l m : List ByteArray) : totX (l ++ m) = totX l + totX m := by simp [totX]
theorem totX_take {l : List ByteArray} {k : Nat} (h : k < l.length) : totX (l.take (k + 1)) = totX (l.take k) + l[k]!.size := by
  rw [List.take_succ_eq_append_getElem h, totX_append, getElem!_pos l k h]
  simp [totX]
theorem totX_le : ∀ l : List ByteArray, totX l + l.length ≤ wtX l
  | [] => Nat.le_refl _
  | s :: r => by
    have := totX_le r
    simp only [totX, List.map_cons, List.sum_cons, wtX, List.length_cons] at this ⊢
    omega
theorem totX_part (l : List ByteArray) (k : Nat) : totX (l.take k) ≤ totX l := by
  have : totX l = totX (l.take k) + totX (l.drop k) := by rw [← totX_append, List.take_append_drop]
  omega

theorem Own.back {w w0 w1 : World} {D : Nat} {G : DiskG} (h : Own w0 w1 D G) (hb : Below w.heap.size w w0) : Own w w1 D G := ⟨h.disk, hb.trans (h.below.mono hb.size), fun k hk => Nat.le_trans hb.size (h.own k hk)⟩

/-- the files made so far -/
def madeP (texts : List ByteArray) : Nat → PF → Prop := fun j p => p = ⟨nums texts[j]!, []⟩
/-- the disk while they are made -/
structure Making (w wr : World) (D : Nat) (texts : List ByteArray) (k : Nat) (G : DiskG) : Prop where
  own : Own w wr D G
  files : Have G k (madeP texts) (totX (texts.take k))
  fresh : Fresh G k
/-- while more is added -/
structure Adding (w wr : World) (D : Nat) (texts : List ByteArray) (n t : Nat) (G : DiskG) : Prop where
  own : Own w wr D G
  files : Have G n (Safe (fun j => nums texts[j]!) t) t
  firm : Firm G n


/-- a file is there, still empty -/
structure Empty1 (w wr : World) (D : Nat) (texts : List ByteArray) (k : Nat) (G : DiskG) : Prop where
  own : Own w wr D G
  files : Have G (k + 1) (fun j p => if j < k then madeP texts j p else p = ⟨[], []⟩) (totX (texts.take k))
  fresh : Fresh G (k + 1)
/-- its text is there -/
structure Full1 (w wr : World) (D : Nat) (texts : List ByteArray) (k : Nat) (G : DiskG) : Prop where
  own : Own w wr D G
  files : Have G (k + 1) (fun j p => if j < k then madeP texts j p else p.bytes = nums texts[j]!) (totX (texts.take (k + 1)))
  fresh : Fresh G (k + 1)

section
variable {w wr : World} {D : Nat} {G : DiskG} {E : Nat → Addr} {texts : List ByteArray} {k : Nat}

theorem mk_create (he : Env w E) (h8 : 8 ≤ w.heap.size) (A : Making w wr D texts k G) {W : World} (hb : Below wr.heap.size wr W) (hk : k < 26) :
    Calls Tryd.prog 7 #[.pointer (some ⟨D, 0, none⟩), .string (⟨#[120, 47]⟩ ++ nm k)] W fun r w' => r = .returned .nilIface ∧ ∃ G', Empty1 w w' D texts k G' := by
  refine (sf_create he h8 (A.own.below_trans hb) A.files A.fresh hk).mono ?_
  rintro r w' ⟨h1, G', h2, h3, h4⟩
  exact ⟨h1, G', h2, h3, h4⟩
theorem mk_append (he : Env w E) (A : Empty1 w wr D texts k G) (hk : k < 26) (hkl : k < texts.length) (hsz : wtX texts ≤ 1048576) :
    Calls Tryd.prog 8 #[.pointer (some ⟨D, 0, none⟩), .string (⟨#[120, 47]⟩ ++ nm k), .slice (some ⟨wr.heap.size, 0, none⟩) 1 1] (wr.alloc (.cells #[.string texts[k]!] 9)) fun r w' => r = .returned .nilIface ∧ ∃ G', Full1 w w' D texts k G' := by
  have hs := totX_take hkl
  have h1 := totX_part texts (k + 1)
  have h2 := totX_le texts
  have hx : ∀ j, j < texts.length → texts[j]!.size ≤ 1048576 := fun j hj => by
    have hm : texts[j]! ∈ texts := by rw [getElem!_pos texts j hj]; exact List.getElem_mem _
    have := wtX_mem hm
    omega
  have e0 : pfAt G k = ⟨[], []⟩ := by
    have := A.files.file k (by omega)
    rw [if_neg (by omega)] at this
    exact this
  refine (sf_append he A.own A.files (A.files.numsFresh A.fresh) (by omega) (i := k) (by omega) texts[k]! (by omega) (fun j hj => ?_)).mono ?_
  · have hp := A.files.file j hj
    by_cases hjk : j < k
    · rw [if_pos hjk] at hp
      have hp : pfAt G j = ⟨nums texts[j]!, []⟩ := hp
      rw [hp]
      exact ⟨by show (nums texts[j]!).length < _; rw [nums_length]; have := hx j (by omega); omega, Nat.zero_lt_succ _, fun k r hh => (by cases hh)⟩
    · rw [if_neg hjk] at hp
      rw [hp]
      exact ⟨by decide, by decide, fun k r hh => (by cases hh)⟩
  · rintro r w' ⟨h1, G', h2, h3, h4, h5⟩
    refine ⟨h1, G', h2, ?_, A.fresh.kept h4 h5⟩
    rw [hs]
    refine h3.mono fun j p hj hp => ?_
    by_cases hjk : j = k
    · subst hjk
      simp only [if_true] at hp
      rw [if_neg (by omega), hp, e0]
      rfl
    · have : j < k := by omega
      simp only [if_neg hjk, if_pos this] at hp ⊢
      exact hp
theorem mk_sync (he : Env w E) (A : Full1 w wr D texts k G) (hk : k < 26) :
    Calls Tryd.prog 9 #[.pointer (some ⟨D, 0, none⟩), .string (⟨#[120, 47]⟩ ++ nm k)] wr fun r w' => r = .returned .nilIface ∧ ∃ G', Making w w' D texts (k + 1) G' := by
  have e0 : (pfAt G k).bytes = nums texts[k]! := by
    have := A.files.file k (by omega)
    rw [if_neg (by omega)] at this
    exact this
  refine (sf_sync he A.own A.files (A.files.numsFresh A.fresh) (by omega) (i := k) (by omega)).mono ?_
  rintro r w' ⟨h1, G', h2, h3, h4, h5⟩
  refine ⟨h1, G', h2, h3.mono fun j p hj hp => ?_, A.fresh.kept h4 h5⟩
  by_cases hjk : j = k
  · subst hjk
    simp only [if_true] at hp
    rw [hp, e0]
    rfl
  · have : j < k := by omega
    simp only [if_neg hjk, if_pos this] at hp
    exact hp
theorem totX_one {l : List ByteArray} {j n : Nat} (hj : j < n) (hn : n ≤ l.length) : l[j]!.size ≤ totX (l.take n) := by
  have h1 := totX_take (l := l) (k := j) (by omega)
  have h2 := totX_part (l.take n) (j + 1)
  rw [List.take_take, Nat.min_eq_left (by omega)] at h2
  omega
theorem mk_names (he : Env w E) (h8 : 8 ≤ w.heap.size) (A : Making w wr D texts k G) (hk : k ≤ 26) (hkl : k ≤ texts.length) :
    Calls Tryd.prog 10 #[.pointer (some ⟨D, 0, none⟩)] wr fun r w' => r = .returned .nilIface ∧ ∃ G', Adding w w' D texts k (totX (texts.take k)) G' := by
  refine (sf_names he h8 A.own A.files A.fresh hk).mono ?_
  rintro r w' ⟨h1, G', h2, h3, h4⟩
  refine ⟨h1, G', h2, h3.mono fun j p hj hp => ?_, h4⟩
  have hp : p = ⟨nums texts[j]!, []⟩ := hp
  rw [hp]
  exact Safe.fresh (f := fun j => nums texts[j]!) ⟨by show (nums texts[j]!).length ≤ _; rw [nums_length]; exact totX_one hj hkl, fun x hx => nums_lt _ x hx⟩

variable {n t : Nat}
theorem Adding.kept (A : Adding w wr D texts n t G) {W : World} (hb : Below wr.heap.size wr W) : Adding w W D texts n t G := ⟨A.own.below_trans hb, A.files, A.firm⟩
theorem ad_append (he : Env w E) (A : Adding w wr D texts n t G) (hn : n ≤ 26) {i : Nat} (hi : i < n) (x : ByteArray) (ht : t + x.size ≤ 1048576) :
    Calls Tryd.prog 8 #[.pointer (some ⟨D, 0, none⟩), .string (⟨#[120, 47]⟩ ++ nm i), .slice (some ⟨wr.heap.size, 0, none⟩) 1 1] (wr.alloc (.cells #[.string x] 9)) fun r w' => r = .returned .nilIface ∧ ∃ G', Adding w w' D texts n (t + x.size) G' := by
  refine (sf_append he A.own A.files (A.files.numsFirm A.firm) hn (i := i) hi x (by omega) (fun j hj => (A.files.file j hj).room (by omega))).mono ?_
  rintro r w' ⟨h1, G', h2, h3, h4, h5⟩
  refine ⟨h1, G', h2, h3.mono fun j p hj hp => ?_, A.firm.kept h4 h5⟩
  by_cases hji : j = i
  · subst hji
    simp only [if_true] at hp
    rw [hp]
    exact (A.files.file j hj).add (nums_lt x) (by rw [nums_length]; omega)
  · simp only [if_neg hji] at hp
    exact hp.more (by omega)

/-- behind the restart -/
structure Reading (w wr : World) (D : Nat) (texts : List ByteArray) (n : Nat) (G : DiskG) : Prop where
  own : Own w wr D G
  files : Have G n (Starts (fun j => nums texts[j]!)) G.used
  firm : Firm G n
theorem Reading.kept (A : Reading w wr D texts n G) {W : World} (hb : Below wr.heap.size wr W) : Reading w W D texts n G := ⟨A.own.below_trans hb, A.files, A.firm⟩

theorem ad_restart (he : Env w E) (h8 : 8 ≤ w.heap.size) (A : Adding w wr D texts n t G) (hn : n ≤ 26) (ht : t ≤ 1048576) (data : List Int) (vd : Value) (hdata : wr.ownsRow 0 3 1 vd data.length (ints data)) (hdl : data.length ≤ 1048576) (hdi : ∀ x ∈ data, inI x) (zeros : Bool) :
    Calls Tryd.prog 11 #[.pointer (some ⟨D, 0, none⟩), .int .i64 0, vd, .bool zeros] wr fun r w' => r = .returned (.tuple #[]) ∧ ∃ G', Reading w w' D texts n G' := by
  refine (sf_restart he h8 A.own (A.files.mono fun j p hj hp => hp.more ht) A.firm hn data vd hdata (by omega) hdi zeros).mono ?_
  rintro r w' ⟨h1, G', h2, h3, h4⟩
  exact ⟨h1, G', h2, h3, h4⟩
theorem rd_all (he : Env w E) (A : Reading w wr D texts n G) (hn : n ≤ 26) {i : Nat} (hi : i < n) :
    Calls Tryd.prog 12 #[.pointer (some ⟨D, 0, none⟩), .string (⟨#[120, 47]⟩ ++ nm i)] wr fun r w' => ∃ s : ByteArray, r = .returned (.tuple #[.string s, .nilIface]) ∧ Reading w w' D texts n G ∧ texts[i]!.size ≤ s.size ∧ s.extract 0 texts[i]!.size = texts[i]! := by
  refine (sf_all he A.own A.files (A.files.numsFirm A.firm) hn hi).mono ?_
  rintro r w' ⟨h1, h2⟩
  obtain ⟨e, hs⟩ := A.files.file i hi
  obtain ⟨h3, h4⟩ := starts_str texts[i]! e
  rw [hs] at h1
  exact ⟨_, h1, ⟨h2, A.files, A.firm⟩, h3, h4⟩
theorem rd_list (he : Env w E) (A : Reading w wr D texts n G) (hn : n ≤ 26) :
    Calls Tryd.prog 13 #[.pointer (some ⟨D, 0, none⟩), .string ⟨#[120]⟩] wr fun r w' => ∃ ao cap, r = .returned (.tuple #[.slice ao n cap, .nilIface]) ∧ Reading w w' D texts n G := by
  refine (sf_list he A.own A.files (A.files.numsFirm A.firm) hn).mono ?_
  rintro r w' ⟨a, c, h1, h2⟩
  exact ⟨a, c, h1, h2, A.files, A.firm⟩
theorem rd_off (A : Reading w wr D texts n G) : Calls Tryd.prog 14 #[.pointer (some ⟨D, 0, none⟩)] wr fun e w' => e = .returned (.bool false) ∧ wr = w' := by
  have := off_any A.own.disk
  rw [A.files.off] at this
  exact this
end
end Go.Proofs.YtanbmlikfhcpoaaDoor.Disk
